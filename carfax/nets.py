"""Nets of roads and crossings, and the cars that want to go through them."""

from carfax.errors import BadCars, BadNet
from carfax.forms import all_differ, is_ascending, is_integer, is_number, is_tuple

MOST_ROADS = 12
MOST_CROSSINGS = 8
MOST_LANES = 3
LEAST_CELLS = 2
MOST_CELLS = 20
MOST_LIMIT = 5
MOST_OUTS = 4
MOST_PHASES = 4
MOST_DURATION = 9
MOST_CARS = 30
LAST_ENTRY = 50
LONGEST_WAY = 6


def check_net(value):
    """Raise BadNet if the value is no net."""
    if not is_net(value):
        raise BadNet("the value is no net")


def check_cars(net, value):
    """Raise BadCars if the value is not the cars of the net."""
    if not is_tuple(value, 0, MOST_CARS):
        raise BadCars("the cars are no tuple of 0 to 30")
    if not all(is_car(net, car) for car in value):
        raise BadCars("a car has no time or no way through the net")


def ends(net):
    """Return for each crossing the ascending list of the roads that end there."""
    roads, crossings = net
    found = [[] for _ in crossings]
    for index, road in enumerate(roads):
        crossing = road[3]
        if crossing >= 0:
            found[crossing].append(index)
    return found


def greens(net, crossing, time):
    """Return the ascending list of the roads that have green at the time."""
    word, told = net[1][crossing][0]
    if word == "order":
        return sorted(told)
    return list(phase_at(told, time)[1])


def phase_at(phases, time):
    """Return the phase in which a light is at the time."""
    left = time % sum(phase[0] for phase in phases)
    at = 0
    while left >= phases[at][0]:
        left -= phases[at][0]
        at += 1
    return phases[at]


def is_net(value):
    """Tell whether the value is a net."""
    if not is_tuple(value, 2, 2):
        return False
    roads, crossings = value
    if not is_tuple(roads, 1, MOST_ROADS) or not is_tuple(crossings, 0, MOST_CROSSINGS):
        return False
    if not all(is_road(road, len(crossings)) for road in roads):
        return False
    ending = ends(value)
    for index, crossing in enumerate(crossings):
        if not is_crossing(crossing, ending[index], len(roads)):
            return False
    return all_differ([road for crossing in crossings for road in crossing[1]])


def is_road(value, crossings):
    """Tell whether the value is a road of a net with so many crossings."""
    if not is_tuple(value, 4, 4):
        return False
    lanes, cells, limit, crossing = value
    if not is_number(lanes, 1, MOST_LANES) or not is_number(cells, LEAST_CELLS, MOST_CELLS):
        return False
    return is_number(limit, 1, MOST_LIMIT) and is_number(crossing, -1, crossings - 1)


def is_crossing(value, ending, many):
    """Tell whether the value is a crossing at which the roads `ending` end, of so many roads of the net."""
    if not is_tuple(value, 2, 2):
        return False
    rule, outs = value
    if not is_rule(rule, ending):
        return False
    return are_roads(outs, 0, MOST_OUTS, list(range(many))) and is_ascending(outs)


def is_rule(value, ending):
    """Tell whether the value is a rule for the roads that end at a crossing."""
    if not is_tuple(value, 2, 2):
        return False
    word, told = value
    if word == "lights":
        return is_tuple(told, 1, MOST_PHASES) and all(is_phase(phase, ending) for phase in told)
    if word == "order":
        return are_roads(told, len(ending), len(ending), ending) and all_differ(told)
    return False


def is_phase(value, ending):
    """Tell whether the value is a phase of a light for the roads that end at a crossing."""
    if not is_tuple(value, 2, 2):
        return False
    duration, green = value
    if not is_number(duration, 1, MOST_DURATION):
        return False
    return are_roads(green, 0, len(ending), ending) and is_ascending(green)


def are_roads(value, low, high, known):
    """Tell whether the value is a tuple of low to high roads, each of them in the list `known`."""
    if not is_tuple(value, low, high):
        return False
    # True is equal to 1, so that to be in the list is not enough.
    return all(is_integer(road) and road in known for road in value)


def is_car(net, value):
    """Tell whether the value is a car of the net."""
    if not is_tuple(value, 2, 2):
        return False
    time, way = value
    return is_number(time, 0, LAST_ENTRY) and is_way(net, way)


def is_way(net, value):
    """Tell whether the value is a way through the net."""
    if not are_roads(value, 1, LONGEST_WAY, list(range(len(net[0])))):
        return False
    return all(leads_to(net, road, following) for road, following in zip(value, value[1:]))


def leads_to(net, road, following):
    """Tell whether the following road begins at the crossing at the end of the road."""
    roads, crossings = net
    crossing = roads[road][3]
    return crossing >= 0 and following in crossings[crossing][1]
