"""Why cars do not move."""

from carfax.roads import first_to_enter, free_ahead, heads
from carfax.states import outside
from carfax.steps import changed, let_through, moved


def cause(net, cars, state, car):
    """Return why the car does not move on in the step from the state, or None."""
    rows = changed(net, cars, state)
    if car in outside(cars, state):
        return cause_outside(net, cars, state, rows, car)
    return causes_on_roads(net, cars, state[0], rows).get(car)


def rings(net, cars, state):
    """Return the ascending list of the lists of cars that wait for one another in a ring."""
    rows = changed(net, cars, state)
    waits_for = {}
    for car, why in causes_on_roads(net, cars, state[0], rows).items():
        if why is not None and why[0] in ("car", "full"):
            waits_for[car] = why[1]
    lines = [line_from(waits_for, car) for car in sorted(waits_for)]
    return [line for line in lines if waits_for.get(line[-1]) == line[0] and line[0] == min(line)]


def line_from(waits_for, car):
    """Return the cars from this one on, each of which waits for the next one, as long as they differ."""
    found = [car]
    while found[-1] in waits_for and waits_for[found[-1]] not in found:
        found.append(waits_for[found[-1]])
    return found


def cause_outside(net, cars, state, rows, car):
    """Return the cause of a car outside; the rows are those behind the changes of lane."""
    time = state[0]
    wish, way = cars[car]
    if wish > time:
        return None
    first = first_to_enter(cars, way[0], time, outside(cars, state))
    if first != car:
        return ("before", first)
    first_cars = heads(moved(net, cars, time, rows)[way[0]])
    if -1 in first_cars:
        return None
    return ("enter", first_cars[0])


def causes_on_roads(net, cars, time, rows):
    """Return the cause, or None, of each car on a road; the rows are those behind the changes of lane."""
    held = {car: why for car, why in let_through(net, cars, time, rows)[1]}
    found = {}
    for road, lanes in enumerate(rows):
        for row in lanes:
            for at, told in enumerate(row):
                if free_ahead(row, at, net[0][road][1]) > 0:
                    found[told[1]] = None
                elif at + 1 < len(row):
                    found[told[1]] = ("car", row[at + 1][1])
                else:
                    found[told[1]] = held.get(told[1])
    return found
