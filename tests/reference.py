"""The document once more, as plainly and slowly as it can be said: cell by cell, point by point.

A state is looked at as a grid: a dict from (road, lane, cell) to (car, speed, leg).
"""


def grid_of(rows):
    return {
        (road, lane, cell): (car, speed, leg)
        for road, lanes in enumerate(rows)
        for lane, row in enumerate(lanes)
        for cell, car, speed, leg in row
    }


def rows_of(net, grid):
    return tuple(
        tuple(
            tuple((cell,) + grid[road, lane, cell] for cell in range(told[1]) if (road, lane, cell) in grid)
            for lane in range(told[0])
        )
        for road, told in enumerate(net[0])
    )


def room(net, grid, road, lane, cell):
    free = 0
    while cell + free + 1 < net[0][road][1] and (road, lane, cell + free + 1) not in grid:
        free += 1
    return free


def want(net, grid, spot):
    return min(grid[spot][1] + 1, net[0][spot[0]][2])


# Point 9.
def changed(net, state):
    time = state[0]
    grid = grid_of(state[1])
    new = {}
    for (road, lane, cell), told in grid.items():
        aside = lane - 1 if time % 2 == 0 else lane + 1
        if may_change(net, grid, (road, lane, cell), aside):
            new[road, aside, cell] = told
        else:
            new[road, lane, cell] = told
    assert len(new) == len(grid)
    return rows_of(net, new)


def may_change(net, grid, spot, aside):
    road, lane, cell = spot
    if aside not in range(net[0][road][0]):
        return False
    if not room(net, grid, *spot) < want(net, grid, spot):
        return False
    if (road, aside, cell) in grid:
        return False
    if not room(net, grid, road, aside, cell) > room(net, grid, *spot):
        return False
    free = 0
    while cell - free - 1 >= 0:
        if (road, aside, cell - free - 1) in grid:
            return grid[road, aside, cell - free - 1][1] <= free
        free += 1
    return True


# Point 10.
def fronts(net, grid):
    """The spots of the front cars that want to go beyond the end."""
    found = []
    for road, lane, cell in sorted(grid):
        if not any((road, lane, more) in grid for more in range(cell + 1, net[0][road][1])):
            if want(net, grid, (road, lane, cell)) > room(net, grid, road, lane, cell):
                found.append((road, lane, cell))
    return found


def leaving(net, cars, rows):
    grid = grid_of(rows)
    return [spot for spot in fronts(net, grid) if grid[spot][2] == len(cars[grid[spot][0]][1]) - 1]


def asking(net, cars, rows):
    grid = grid_of(rows)
    found = []
    for crossing, (rule, _) in enumerate(net[1]):
        roads = rule[1] if rule[0] == "order" else range(len(net[0]))
        for road in roads:
            if net[0][road][3] != crossing:
                continue
            for spot in fronts(net, grid):
                car, _, leg = grid[spot]
                if spot[0] == road and leg < len(cars[car][1]) - 1:
                    onto = cars[car][1][leg + 1]
                    lanes = net[0][onto][0]
                    found.append((car, road, spot[1], onto, spot[1] if spot[1] < lanes else lanes - 1))
    return found


def is_green(net, road, time):
    (word, told), _ = net[1][net[0][road][3]]
    if word == "order":
        return True
    spread = [green for duration, green in told for _ in range(duration)]
    return road in spread[time % len(spread)]


def let_through(net, cars, time, rows):
    grid = grid_of(rows)
    asked = asking(net, cars, rows)
    through, held = [], []
    for told in asked:
        why = why_held(net, grid, time, asked, through, told)
        if why is None:
            through.append(told)
        else:
            held.append((told[0], why))
    return through, held


def why_held(net, grid, time, asked, through, told):
    car, road, lane, onto, next_lane = told
    crossing = net[0][road][3]
    word, order = net[1][crossing][0]
    if not is_green(net, road, time):
        return ("light", crossing)
    if (onto, next_lane, 0) in grid:
        return ("full", grid[onto, next_lane, 0][0])
    if word == "order":
        for other, start, _, where, entered in asked:
            before = start in order and order.index(start) < order.index(road)
            if before and where == onto and (where, entered, 0) not in grid:
                return ("right", other)
    for other, _, _, where, entered in through:
        if (where, entered) == (onto, next_lane):
            return ("lane", other)
    return None


# Point 11.
def moved(net, cars, time, rows):
    grid = grid_of(rows)
    gone = leaving(net, cars, rows)
    through = {(road, lane): told for told in let_through(net, cars, time, rows)[0] for _, road, lane, _, _ in [told]}
    new = {}
    for spot, (car, _, leg) in grid.items():
        road, lane, cell = spot
        wish, ahead = want(net, grid, spot), room(net, grid, *spot)
        if spot in gone:
            continue
        if (road, lane) in through and spot in fronts(net, grid):
            _, _, _, onto, next_lane = through[road, lane]
            free = 0
            while free < net[0][onto][1] and (onto, next_lane, free) not in grid:
                free += 1
            assert free >= 1
            at = min(wish - ahead - 1, free - 1)
            target, told = (onto, next_lane, at), (car, ahead + 1 + at, leg + 1)
        else:
            go = min(wish, ahead)
            target, told = (road, lane, cell + go), (car, go, leg)
        assert target not in new
        new[target] = told
    return rows_of(net, new)


# Point 12.
def in_line(cars, state, road):
    """The cars outside that may enter the road, the first one first."""
    inside = [told[1] for lanes in state[1] for row in lanes for told in row] + [car for car, _ in state[2]]
    ready = [
        (time, car)
        for car, (time, way) in enumerate(cars)
        if car not in inside and way[0] == road and time <= state[0]
    ]
    return [car for _, car in sorted(ready)]


def step(net, cars, state):
    time, _, arrived = state
    behind = changed(net, state)
    grid = grid_of(moved(net, cars, time, behind))
    for road, told in enumerate(net[0]):
        free = [lane for lane in range(told[0]) if (road, lane, 0) not in grid]
        line = in_line(cars, state, road)
        if line and free:
            grid[road, free[0], 0] = (line[0], 0, 0)
    left = grid_of(behind)
    gone = [(left[spot][0], time + 1) for spot in leaving(net, cars, behind)]
    return (time + 1, rows_of(net, grid), tuple(sorted(arrived + tuple(gone))))


def run(net, cars, until):
    states = [(0, rows_of(net, {}), ())]
    while states[-1][0] < until:
        states.append(step(net, cars, states[-1]))
    return states


# Points 13 and 14.
def cause(net, cars, state, car):
    behind = changed(net, state)
    grid = grid_of(behind)
    for (road, lane, cell), told in grid.items():
        if told[0] == car:
            if room(net, grid, road, lane, cell) > 0:
                return None
            if cell + 1 < net[0][road][1]:
                return ("car", grid[road, lane, cell + 1][0])
            return dict(let_through(net, cars, state[0], behind)[1]).get(car)
    road = cars[car][1][0]
    line = in_line(cars, state, road)
    if car not in line:
        return None
    if line[0] != car:
        return ("before", line[0])
    grid = grid_of(moved(net, cars, state[0], behind))
    if all((road, lane, 0) in grid for lane in range(net[0][road][0])):
        return ("enter", grid[road, 0, 0][0])
    return None


def rings(net, cars, state):
    found = []
    for start in range(len(cars)):
        ring = [start]
        while True:
            why = cause(net, cars, state, ring[-1])
            if why is None or why[0] not in ("car", "full"):
                break
            if why[1] in ring:
                if why[1] == start and start == min(ring):
                    found.append(ring)
                break
            ring.append(why[1])
    return found


# Point 16.
def passed(cars, states, road, cell):
    found = []
    for before, state in zip(states, states[1:]):
        for car, (_, way) in enumerate(cars):
            if road in way and is_past(cars, state, car, road, cell) and not is_past(cars, before, car, road, cell):
                found.append((state[0], car))
    return found


def is_past(cars, state, car, road, cell):
    leg_of_road = list(cars[car][1]).index(road)
    for (_, _, at), (other, _, leg) in grid_of(state[1]).items():
        if other == car:
            return leg > leg_of_road or (leg == leg_of_road and at >= cell)
    return car in [other for other, _ in state[2]]
