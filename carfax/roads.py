"""What the cars of a single road do: all of it by its lanes alone.

The lanes of a road are as in the rows of a state: tuples of cars, which are tuples (cell, car, speed, leg).
"""


def free_ahead(row, at, cells):
    """Return how many cells are free ahead of the car with the index `at` in its row."""
    end = cells
    if at + 1 < len(row):
        end = row[at + 1][0]
    return end - row[at][0] - 1


def wanted(told, limit):
    """Return how many cells the car wants to go."""
    return min(told[2] + 1, limit)


def heads(lanes):
    """Return for each lane the car in its cell 0, or -1."""
    return tuple([row[0][1] if row and row[0][0] == 0 else -1 for row in lanes])


def changed_lanes(net, road, lanes, time):
    """Return the lanes behind the changes of lane."""
    _, cells, limit, _ = net[0][road]
    aside = 1 if time % 2 == 1 else -1
    new = [[] for _ in lanes]
    for lane, row in enumerate(lanes):
        beside = lane + aside
        for at, told in enumerate(row):
            if 0 <= beside < len(lanes) and changes(row, at, lanes[beside], cells, limit):
                new[beside].append(told)
            else:
                new[lane].append(told)
    return tuple([tuple(sorted(row)) for row in new])


def changes(row, at, beside, cells, limit):
    """Tell whether the car with the index `at` in its row changes to the row beside it."""
    cell = row[at][0]
    ahead = free_ahead(row, at, cells)
    if ahead >= wanted(row[at], limit) or any(told[0] == cell for told in beside):
        return False
    if min([told[0] for told in beside if told[0] > cell], default=cells) - cell - 1 <= ahead:
        return False
    behind = [told for told in beside if told[0] < cell]
    return not behind or behind[-1][2] <= cell - behind[-1][0] - 1


def fronts(net, road, lanes):
    """Return the tuples (lane, car, leg, want, room) of the front cars that want to go beyond the end."""
    _, cells, limit, _ = net[0][road]
    found = []
    for lane, row in enumerate(lanes):
        if row:
            want = wanted(row[-1], limit)
            ahead = free_ahead(row, len(row) - 1, cells)
            if want > ahead:
                found.append((lane, row[-1][1], row[-1][3], want, ahead))
    return found


def leaving(net, cars, road, lanes):
    """Return the pairs of a lane and its front car, of those that leave the net."""
    return [(lane, car) for lane, car, leg, _, _ in fronts(net, road, lanes) if leg + 1 == len(cars[car][1])]


def asks(net, cars, road, lanes):
    """Return the tuples (lane, car, leg, next road, next lane, want, room) of the cars that ask to enter a road.

    The leg is that of the next road.
    """
    found = []
    for lane, car, leg, want, ahead in fronts(net, road, lanes):
        following = cars[car][1][leg + 1:]
        if following:
            onto = following[0]
            found.append((lane, car, leg + 1, onto, min(lane, net[0][onto][0] - 1), want, ahead))
    return found


def moved_lanes(net, road, lanes, gone, coming):
    """Return the lanes behind the moves.

    The front cars of the lanes in `gone` have gone beyond the end, and the cars in `coming`, tuples
    (lane, car, leg, want, room), have come from other roads, or from this one.
    """
    _, cells, limit, _ = net[0][road]
    new = []
    for lane, row in enumerate(lanes):
        staying = len(row)
        if lane in gone:
            staying -= 1
        came = [come(row, told, cells) for told in coming if told[0] == lane]
        new.append(tuple(came + [moved_on(row, at, cells, limit) for at in range(staying)]))
    return tuple(new)


def moved_on(row, at, cells, limit):
    """Return the car with the index `at` in its row as it is behind a move on its lane."""
    cell, car, _, leg = row[at]
    speed = min(wanted(row[at], limit), free_ahead(row, at, cells))
    return (cell + speed, car, speed, leg)


def come(row, told, cells):
    """Return a car that comes from the end of a road as it is in the row that it enters."""
    _, car, leg, want, ahead = told
    free = row[0][0] if row else cells
    cell = min(want - ahead - 1, free - 1)
    return (cell, car, ahead + 1 + cell, leg)


def first_to_enter(cars, road, time, waiting):
    """Return the one of the cars outside that goes first onto the road, or -1."""
    line = [(cars[car][0], car) for car in waiting if cars[car][1][0] == road and cars[car][0] <= time]
    return min(line)[1] if line else -1


def entering(cars, road, time, lanes, waiting):
    """Return the one of the cars outside that enters the road, if one may and a cell 0 is free, or -1."""
    if -1 not in heads(lanes):
        return -1
    return first_to_enter(cars, road, time, waiting)


def entered_lanes(lanes, car):
    """Return the lanes behind the entering of the car, or as they were if it is -1."""
    if car < 0:
        return lanes
    lane = heads(lanes).index(-1)
    return lanes[:lane] + (((0, car, 0, 0),) + lanes[lane],) + lanes[lane + 1:]
