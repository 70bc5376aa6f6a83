"""Nets, cars and states drawn from a number: the same number gives the same ones."""

import random


def draw_net(seed, most_roads=12, lanes=3, cells=20):
    """A net of some roads, most of which lead to others."""
    pick = random.Random(seed)
    many = pick.randint(1, most_roads)
    crossings = pick.randint(0, 8) if pick.random() < 0.1 else pick.randint(1, 1 + many // 2)
    crossings = min(crossings, 8)
    roads = [
        (
            pick.randint(1, lanes),
            pick.randint(2, pick.choice((2, 4, cells))),
            pick.randint(1, 5),
            pick.randint(0, crossings - 1) if crossings and pick.random() < 0.9 else -1,
        )
        for _ in range(many)
    ]
    outs = [[] for _ in range(crossings)]
    for road in range(many):
        at = pick.randrange(crossings) if crossings and pick.random() < 0.9 else -1
        if at >= 0 and len(outs[at]) < 4:
            outs[at].append(road)
    made = []
    for crossing in range(crossings):
        ending = [road for road in range(many) if roads[road][3] == crossing]
        made.append((draw_rule(pick, ending), tuple(outs[crossing])))
    return (tuple(roads), tuple(made))


def draw_rule(pick, ending):
    if pick.random() < 0.5:
        return ("order", tuple(pick.sample(ending, len(ending))))
    return (
        "lights",
        tuple(
            (pick.choice((1, 1, 2, 3, 9)), tuple(road for road in ending if pick.random() < 0.6))
            for _ in range(pick.randint(1, 4))
        ),
    )


def draw_cars(seed, net, most=30):
    pick = random.Random(f"cars {seed}")
    late = pick.choice((0, 3, 50))
    return tuple((pick.randint(0, late), draw_way(pick, net)) for _ in range(pick.randint(0, most)))


def draw_way(pick, net):
    roads, crossings = net
    way = [pick.randrange(len(roads))]
    while len(way) < 6 and pick.random() < 0.9:
        crossing = roads[way[-1]][3]
        if crossing < 0 or not crossings[crossing][1]:
            break
        way.append(pick.choice(crossings[crossing][1]))
    return tuple(way)


def draw_state(seed, net, cars):
    """A sound state, often with many cars at the first and the last cells."""
    pick = random.Random(f"state {seed}")
    time = pick.choice((0, 1, 2, 7, 50, 51, 1000))
    spots = {}
    arrived = []
    share = pick.choice((0.5, 0.9, 1.0))
    near = pick.random() < 0.5
    for car, (_, way) in enumerate(cars):
        if pick.random() < share:
            leg = pick.randrange(len(way))
            lanes, cells, _, _ = net[0][way[leg]]
            cell = pick.choice((0, cells - 1)) if near and pick.random() < 0.7 else pick.randrange(cells)
            spots.setdefault((way[leg], pick.randrange(lanes), cell), (car, pick.randint(0, 5), leg))
        elif pick.random() < 0.3:
            arrived.append((car, pick.randint(0, time)))
    rows = tuple(
        tuple(
            tuple((cell,) + spots[road, lane, cell] for cell in range(told[1]) if (road, lane, cell) in spots)
            for lane in range(told[0])
        )
        for road, told in enumerate(net[0])
    )
    return (time, rows, tuple(arrived))


def draw_cutting(seed, net):
    """A cutting with up to four workers."""
    pick = random.Random(f"cutting {seed}")
    roads = len(net[0])
    many = min(roads, pick.choice((1, 2, 2, 3, 3, 4, 4)))
    workers = list(range(many)) + [pick.randrange(many) for _ in range(roads - many)]
    pick.shuffle(workers)
    return tuple(workers)


def draw_schedule(seed, length):
    pick = random.Random(f"schedule {seed}")
    return [pick.randint(-10 ** 6, 10 ** 6) for _ in range(length)]
