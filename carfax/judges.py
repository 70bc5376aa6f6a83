"""Judges: whether a log of letters can be that of a run."""

from carfax.forms import is_index, is_tuple
from carfax.stages import STAGES, Share, known_at_first, known_behind


def agrees(net, cars, cutting, state, until, log, worker):
    """Tell whether the worker agrees with the log from the state on up to the time `until`."""
    share = Share(net, cars, cutting, worker)
    last = {(time, kind, road): what for _, _, time, kind, road, what in log}
    if not says_enough(share, state[0], until, last):
        return False
    known = known_at_first(share, state)
    for time in range(state[0], until):
        for stage in range(STAGES):
            letters = {(kind, road): last[(time, kind, road)] for kind, road in share.uses[stage]}
            known = known_behind(share, time, stage, known, letters)
            if any(known.said[(kind, road)] != last[(time, kind, road)] for kind, road in share.tells[stage]):
                return False
    return True


def says_enough(share, since, until, last):
    """Tell whether at each time before `until` all letters of the worker are there, and it can go on by them."""
    for time in range(since, until):
        for kind, road in [pair for pairs in share.tells for pair in pairs]:
            if (time, kind, road) not in last:
                return False
        for kind, road in [pair for pairs in share.uses for pair in pairs]:
            if (time, kind, road) not in last or not is_usable(share, kind, road, last[(time, kind, road)]):
                return False
    return True


def is_usable(share, kind, road, what):
    """Tell whether the roads, lanes and cars of which a letter about the road speaks are there."""
    if not isinstance(what, tuple):
        return False
    if kind == "ask":
        return all(is_usable_ask(share.net, road, told) for told in what)
    if kind == "come":
        return all(is_usable_come(share, road, told) for told in what)
    return kind != "heads" or len(what) >= share.net[0][road][0]


def is_usable_ask(net, road, told):
    """Tell whether a car that asks on the road asks for a lane of a road that begins at its end."""
    if not is_tuple(told, 7, 7):
        return False
    _, _, _, onto, lane, _, _ = told
    roads, crossings = net
    return onto in crossings[roads[road][3]][1] and is_index(lane, roads[onto][0])


def is_usable_come(share, road, told):
    """Tell whether what comes to the road is a car that has it in its way, for a lane of it."""
    if not is_tuple(told, 5, 5):
        return False
    lane, car, leg, _, _ = told
    if not is_index(lane, share.net[0][road][0]) or not is_index(car, len(share.cars)):
        return False
    way = share.cars[car][1]
    return is_index(leg, len(way)) and way[leg] == road
