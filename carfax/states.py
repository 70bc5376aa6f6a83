"""States: where the cars of a net are at a time."""

from carfax.errors import BadState
from carfax.forms import all_differ, is_ascending, is_index, is_number, is_tuple
from carfax.roads import free_ahead

LAST_TIME = 1000000
MOST_SPEED = 5


def beginning(net):
    """Return the state at the beginning, in which all cars are outside."""
    rows = tuple([((),) * road[0] for road in net[0]])
    return (0, rows, ())


def check_state(net, cars, value):
    """Raise BadState if the value is no sound state."""
    if not is_tuple(value, 3, 3):
        raise BadState("a state is a tuple of three")
    time, rows, arrived = value
    if not is_number(time, 0, LAST_TIME):
        raise BadState("the state has no time from 0 to 1,000,000")
    if not are_rows(net, cars, rows):
        raise BadState("the rows are not those of the net with its cars")
    if not is_tuple(arrived, 0, len(cars)) or not all(is_arrival(pair, len(cars), time) for pair in arrived):
        raise BadState("the arrived cars are no pairs of a car and a time up to that of the state")
    if not is_ascending(arrived):
        raise BadState("the arrived cars are not ascending")
    if not all_differ(entered(value)):
        raise BadState("a car is in two places")


def place(state, car):
    """Return the road, the lane and the cell at which the car is, or None if it is on no road."""
    for road, lanes in enumerate(state[1]):
        for lane, row in enumerate(lanes):
            for cell, other, _, _ in row:
                if other == car:
                    return (road, lane, cell)
    return None


def room(net, state, road, lane, at):
    """Return the room ahead of the car with the index `at` in its lane."""
    return free_ahead(state[1][road][lane], at, net[0][road][1])


def outside(cars, state):
    """Return the ascending list of the cars that wait outside."""
    gone = entered(state)
    return [car for car in range(len(cars)) if car not in gone]


def entered(state):
    """Return the list of the cars that are on roads or have arrived, as often as they are."""
    _, rows, arrived = state
    found = [told[1] for lanes in rows for row in lanes for told in row]
    return found + [car for car, _ in arrived]


def are_rows(net, cars, value):
    """Tell whether the value has a row of cars for each lane of each road of the net."""
    roads = net[0]
    if not is_tuple(value, len(roads), len(roads)):
        return False
    for index, lanes in enumerate(value):
        many, cells, _, _ = roads[index]
        if not is_tuple(lanes, many, many):
            return False
        if not all(is_row(row, cars, index, cells) for row in lanes):
            return False
    return True


def is_row(value, cars, road, cells):
    """Tell whether the value is the tuple of the cars on a lane of the road with so many cells."""
    if not is_tuple(value, 0, cells):
        return False
    if not all(is_on_road(told, cars, road, cells) for told in value):
        return False
    return is_ascending([told[0] for told in value])


def is_on_road(value, cars, road, cells):
    """Tell whether the value is a car on the road with so many cells, which is that of its leg."""
    if not is_tuple(value, 4, 4):
        return False
    cell, car, speed, leg = value
    if not is_index(cell, cells) or not is_index(car, len(cars)) or not is_number(speed, 0, MOST_SPEED):
        return False
    way = cars[car][1]
    return is_index(leg, len(way)) and way[leg] == road


def is_arrival(value, many, time):
    """Tell whether the value is a pair of one of so many cars and a time from 0 to that of the state."""
    if not is_tuple(value, 2, 2):
        return False
    car, when = value
    return is_index(car, many) and is_number(when, 0, time)
