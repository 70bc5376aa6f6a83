"""Reports of a run."""

from carfax.states import outside


def passed(net, cars, states, road, cell):
    """Return the ascending list of the pairs of a time and a car that passes the cell of the road at it."""
    found = []
    for before, state in zip(states, states[1:]):
        already = cars_beyond(cars, before, road, cell)
        found.extend([(state[0], car) for car in cars_beyond(cars, state, road, cell) if car not in already])
    return sorted(found)


def counts(cars, state):
    """Return the numbers of the cars outside, on roads, and arrived."""
    _, rows, arrived = state
    driving = sum([len(row) for lanes in rows for row in lanes])
    return (len(outside(cars, state)), driving, len(arrived))


def cars_beyond(cars, state, road, cell):
    """Return the cars whose way has the road and that are at its cell or beyond it, or have arrived."""
    _, rows, arrived = state
    found = [car for car, _ in arrived if road in cars[car][1]]
    for lanes in rows:
        for row in lanes:
            for at, car, _, leg in row:
                way = cars[car][1]
                if road in way and (leg, at) >= (way.index(road), cell):
                    found.append(car)
    return found
