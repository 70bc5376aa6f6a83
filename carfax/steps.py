"""The plain run: all cars go on, step by step."""

from carfax.crossings import asked_at, crossed, decided
from carfax.roads import asks, changed_lanes, entered_lanes, entering, heads, leaving, moved_lanes
from carfax.states import beginning, outside


def changed(net, cars, state):
    """Return the rows behind the changes of lane."""
    time, rows, _ = state
    return tuple([changed_lanes(net, road, lanes, time) for road, lanes in enumerate(rows)])


def asking(net, cars, time, rows):
    """Return the tuples (car, road, lane, next road, next lane) of the cars that ask to enter a road."""
    return [shortened(road, ask) for road, ask, _ in gone_through(net, cars, time, rows)]


def let_through(net, cars, time, rows):
    """Return those of the tuples of `asking` that are let through, and the pairs of a car and its cause."""
    told = gone_through(net, cars, time, rows)
    through = [shortened(road, ask) for road, ask, why in told if why is None]
    held = [(ask[1], why) for _, ask, why in told if why is not None]
    return (through, held)


def step(net, cars, state):
    """Return the next state."""
    time, _, arrived = state
    rows = changed(net, cars, state)
    left = [(car, time + 1) for road, lanes in enumerate(rows) for _, car in leaving(net, cars, road, lanes)]
    waiting = outside(cars, state)
    behind = moved(net, cars, time, rows)
    new = [entered_lanes(lanes, entering(cars, road, time, lanes, waiting)) for road, lanes in enumerate(behind)]
    return (time + 1, tuple(new), tuple(sorted(list(arrived) + left)))


def run(net, cars, until):
    """Return the states of the plain run up to the time `until`."""
    found = [beginning(net)]
    for _ in range(until):
        found.append(step(net, cars, found[-1]))
    return found


def shortened(road, ask):
    """Return what a car on the road asks as `asking` tells it."""
    lane, car, _, onto, next_lane, _, _ = ask
    return (car, road, lane, onto, next_lane)


def gone_through(net, cars, time, rows):
    """Return the tuples of a road, what a car on it asks, and its cause, or None if it is let through."""
    asked_on = [asks(net, cars, road, lanes) for road, lanes in enumerate(rows)]
    first_cars = [heads(lanes) for lanes in rows]
    found = []
    for crossing in range(len(net[1])):
        asked = asked_at(net, crossing, asked_on)
        causes = decided(net, crossing, time, asked, first_cars)
        found.extend([(road, ask, why) for (road, ask), why in zip(asked, causes)])
    return found


def moved(net, cars, time, rows):
    """Return the rows behind the moves; those given are behind the changes of lane."""
    asked_on = [asks(net, cars, road, lanes) for road, lanes in enumerate(rows)]
    first_cars = [heads(lanes) for lanes in rows]
    gone = [[lane for lane, _ in leaving(net, cars, road, lanes)] for road, lanes in enumerate(rows)]
    coming = [[] for _ in rows]
    for crossing in range(len(net[1])):
        lets, comes = crossed(net, crossing, time, asked_on, first_cars)
        for road, lanes in lets.items():
            gone[road].extend(lanes)
        for road, told in comes.items():
            coming[road].extend(told)
    new = [moved_lanes(net, road, lanes, gone[road], coming[road]) for road, lanes in enumerate(rows)]
    return tuple(new)
