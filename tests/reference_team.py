"""Points 21 to 31 once more, as plainly and slowly as they can be said: by the definitions, with nothing kept in mind.

A worker has the grid of its own roads (see tests/reference.py), the set of the cars that have entered, and the dict of
the cars that have left the net, with their times.
"""

from tests import reference

NAMED = {0: ("ask", "heads"), 1: ("let", "come"), 2: ()}
STAGE = {"ask": 1, "heads": 1, "let": 2, "come": 2}


# Points 21 and 22.
def owner(net, cutting, crossing):
    for road, told in enumerate(net[0]):
        if crossing != -1 and told[3] == crossing:
            return cutting[road]
    return -1


def begins_at(net, road):
    found = [crossing for crossing, (_, outs) in enumerate(net[1]) if road in outs]
    return found[0] if found else -1


def between(net, cutting, kind, road):
    """The sender and the receiver of a letter, or None."""
    crossing = net[0][road][3] if kind in ("ask", "let") else begins_at(net, road)
    pair = (cutting[road], owner(net, cutting, crossing))
    if kind in ("let", "come"):
        pair = pair[::-1]
    return None if -1 in pair or pair[0] == pair[1] else pair


def letters(net, cutting, worker, side):
    found = []
    for kind in ("ask", "come", "heads", "let"):
        for road in range(len(net[0])):
            pair = between(net, cutting, kind, road)
            if pair is not None and pair[side] == worker:
                found.append((kind, road))
    return found


def letters_from(net, cutting, worker):
    return letters(net, cutting, worker, 0)


def letters_to(net, cutting, worker):
    return letters(net, cutting, worker, 1)


# Point 23.
def only_on(roads, grid):
    return {spot: told for spot, told in grid.items() if spot[0] in roads}


def asks_on(net, cars, grid, road):
    found = []
    for spot in reference.fronts(net, grid):
        car, _, leg = grid[spot]
        if spot[0] == road and leg + 1 < len(cars[car][1]):
            onto = cars[car][1][leg + 1]
            lane = min(spot[1], net[0][onto][0] - 1)
            wish, ahead = reference.want(net, grid, spot), reference.room(net, grid, *spot)
            found.append((spot[1], car, leg + 1, onto, lane, wish, ahead))
    return tuple(sorted(found))


def heads_on(net, grid, road):
    return tuple(grid[road, lane, 0][0] if (road, lane, 0) in grid else -1 for lane in range(net[0][road][0]))


def decisions(net, crossing, time, asks, heads):
    """What is said from the crossing, by kind and road; asks and heads are by road."""
    (word, told), outs = net[1][crossing]
    ending = [road for road in range(len(net[0])) if net[0][road][3] == crossing]
    grid = {
        (road, lane, 0): (car, 0, 0)
        for road in outs for lane, car in enumerate(heads[road]) if car != -1
    }
    asked = [
        (ask[1], road, ask[0], ask[3], ask[4])
        for road in (told if word == "order" else ending) for ask in asks[road]
    ]
    through = []
    for one in asked:
        if reference.why_held(net, grid, time, asked, through, one) is None:
            through.append(one)
    said = {}
    for road in ending:
        said["let", road] = tuple(sorted(lane for _, start, lane, _, _ in through if start == road))
    for road in outs:
        said["come", road] = tuple(sorted(
            (next_lane, car) + [(ask[2], ask[5], ask[6]) for ask in asks[start] if ask[:2] == (lane, car)][0]
            for car, start, lane, onto, next_lane in through if onto == road
        ))
    return said


class SlowWorker:
    """One that copies all it knows before each stage."""

    def __init__(self, net, cars, cutting, worker, state):
        self.net, self.cars, self.cutting, self.worker = net, cars, cutting, worker
        self.roads = [road for road in range(len(net[0])) if cutting[road] == worker]
        self.at = (state[0], 0)
        inside = [told[1] for lanes in state[1] for row in lanes for told in row] + [car for car, _ in state[2]]
        self.grid = only_on(self.roads, reference.grid_of(state[1]))
        self.entered = {car for car in inside if cars[car][1][0] in self.roads}
        self.left = {(car, time) for car, time in state[2] if cars[car][1][-1] in self.roads}
        self.said = {}
        self.used = {}
        self.before = {}

    def knows(self):
        return (dict(self.grid), set(self.entered), set(self.left), dict(self.said), dict(self.used))

    def go_back(self, at):
        self.grid, self.entered, self.left, self.said, self.used = (part.copy() for part in self.before[at])
        self.before = {then: told for then, told in self.before.items() if then < at}
        self.at = at

    def uses(self):
        return [
            (kind, road) for kind, road in letters_to(self.net, self.cutting, self.worker) if STAGE[kind] == self.at[1]
        ]

    def do(self, letters_read):
        """Does a stage by what it reads for each kind and road, and returns what it says, by kind and road."""
        time, stage = self.at
        self.before[self.at] = self.knows()
        for (kind, road), what in letters_read.items():
            self.used[time, kind, road] = what
        told = {**self.said, **letters_read}
        if stage == 0:
            self.grid = only_on(self.roads, reference.grid_of(
                reference.changed(self.net, (time, reference.rows_of(self.net, self.grid), ()))
            ))
            for road in self.roads:
                self.said["ask", road] = asks_on(self.net, self.cars, self.grid, road)
                self.said["heads", road] = heads_on(self.net, self.grid, road)
        elif stage == 1:
            for crossing in range(len(self.net[1])):
                if owner(self.net, self.cutting, crossing) == self.worker:
                    asks = {road: what for (kind, road), what in told.items() if kind == "ask"}
                    heads = {road: what for (kind, road), what in told.items() if kind == "heads"}
                    self.said.update(decisions(self.net, crossing, time, asks, heads))
        else:
            self.move(time, told)
        self.at = (time, stage + 1) if stage < 2 else (time + 1, 0)
        said, self.said = self.said, self.said if stage < 2 else {}
        return {
            (kind, road): said[kind, road]
            for kind, road in letters_from(self.net, self.cutting, self.worker) if kind in NAMED[stage]
        }

    def move(self, time, told):
        new = {}
        for spot, (car, _, leg) in sorted(self.grid.items()):
            road, lane, cell = spot
            wish, ahead = reference.want(self.net, self.grid, spot), reference.room(self.net, self.grid, *spot)
            if spot in reference.leaving(self.net, self.cars, reference.rows_of(self.net, self.grid)):
                self.left.add((car, time + 1))
                continue
            asking = any(ask[:2] == (lane, car) for ask in asks_on(self.net, self.cars, self.grid, road))
            if spot in reference.fronts(self.net, self.grid) and asking and lane in told.get(("let", road), ()):
                continue
            go = min(wish, ahead)
            assert (road, lane, cell + go) not in new
            new[road, lane, cell + go] = (car, go, leg)
        for (kind, road), comes in told.items():
            if kind == "come" and road in self.roads:
                for lane, car, leg, wish, ahead in comes:
                    if (road, lane, 0) not in self.grid:
                        free = 1
                        while free < self.net[0][road][1] and (road, lane, free) not in self.grid:
                            free += 1
                        cell = min(wish - ahead - 1, free - 1)
                        assert (road, lane, cell) not in new
                        new[road, lane, cell] = (car, ahead + 1 + cell, leg)
        self.grid = new
        for road in self.roads:
            line = sorted(
                (wish, car) for car, (wish, way) in enumerate(self.cars)
                if way[0] == road and car not in self.entered and wish <= time
            )
            free = [lane for lane in range(self.net[0][road][0]) if (road, lane, 0) not in self.grid]
            if line and free:
                self.grid[road, free[0], 0] = (line[0][1], 0, 0)
                self.entered.add(line[0][1])


# Points 24 to 30.
class SlowTeam:
    def __init__(self, net, cars, cutting, ahead, state, until):
        self.net, self.cars, self.cutting, self.ahead, self.until = net, cars, cutting, ahead, until
        self.start = state[0]
        self.workers = [SlowWorker(net, cars, cutting, worker, state) for worker in range(max(cutting) + 1)]
        self.letters = []
        self.delivered = []
        self.back = 0

    def on_way(self, sender, receiver):
        """The numbers in the log of the letters on their way, the oldest one first."""
        return [
            at for at, letter in enumerate(self.letters)
            if letter[:2] == (sender, receiver) and at not in self.delivered
        ]

    def pending(self):
        many = range(len(self.workers))
        found = [(sender, receiver, len(self.on_way(sender, receiver))) for sender in many for receiver in many]
        return [told for told in found if told[2] > 0]

    def has(self, worker, time, kind, road):
        """The what of the last letter that has arrived, or None."""
        found = [
            self.letters[at][5] for at in self.delivered
            if self.letters[at][1:5] == (worker, time, kind, road)
        ]
        return found[-1] if found else None

    def settled(self):
        time = self.until
        while not self.is_settled(time):
            time -= 1
        return time

    def is_settled(self, time):
        if time == self.start:
            return True
        if any(worker.at < (time, 0) for worker in self.workers):
            return False
        if any(letter[2] < time for at, letter in enumerate(self.letters) if at not in self.delivered):
            return False
        return all(
            self.has(number, then, kind, road) is not None
            for number in range(len(self.workers))
            for kind, road in letters_to(self.net, self.cutting, number)
            for then in range(self.start, time)
        )

    def state(self):
        at = (self.settled(), 0)
        grid, left = {}, []
        for worker in self.workers:
            known = worker.knows() if worker.at == at else worker.before[at]
            grid.update(known[0])
            left += known[2]
        return (at[0], reference.rows_of(self.net, grid), tuple(sorted(left)))

    def reads(self, number):
        """What a worker reads for its next stage, by kind and road, or None if it cannot do it."""
        found = {}
        worker = self.workers[number]
        for kind, road in worker.uses():
            what = self.has(number, worker.at[0], kind, road)
            if what is None and worker.at[0] >= self.settled() + self.ahead:
                return None
            if what is None:
                what = (-1,) * self.net[0][road][0] if kind == "heads" else ()
            found[kind, road] = what
        return found

    def moves(self):
        work = [
            ("work", number) for number, worker in enumerate(self.workers)
            if worker.at[0] < self.until and self.reads(number) is not None
        ]
        return work + [("mail", sender, receiver) for sender, receiver, _ in self.pending()]

    def move(self, index):
        chosen = self.moves()[index]
        if chosen[0] == "work":
            self.work(chosen[1])
        else:
            self.deliver(*chosen[1:])

    def work(self, number):
        worker = self.workers[number]
        time, stage = worker.at
        said = worker.do(self.reads(number))
        for kind in NAMED[stage]:
            for road in range(len(self.net[0])):
                if (kind, road) in said:
                    _, receiver = between(self.net, self.cutting, kind, road)
                    sent = [letter[5] for letter in self.letters if letter[:5] == (number, receiver, time, kind, road)]
                    if not sent or sent[-1] != said[kind, road]:
                        self.letters.append((number, receiver, time, kind, road, said[kind, road]))

    def deliver(self, sender, receiver):
        at = self.on_way(sender, receiver)[0]
        self.delivered.append(at)
        _, _, time, kind, road, what = self.letters[at]
        worker = self.workers[receiver]
        if (time, kind, road) in worker.used and worker.used[time, kind, road] != what:
            worker.go_back((time, STAGE[kind]))
            self.back += 1


# Point 31.
def agrees(net, cars, cutting, state, until, log, worker):
    last = {letter[2:5]: letter[5] for letter in log}
    own = letters_to(net, cutting, worker) + letters_from(net, cutting, worker)
    if any((time, kind, road) not in last for time in range(state[0], until) for kind, road in own):
        return False
    one = SlowWorker(net, cars, cutting, worker, state)
    while one.at < (until, 0):
        time = one.at[0]
        said = one.do({(kind, road): last[time, kind, road] for kind, road in one.uses()})
        if any(last[time, kind, road] != what for (kind, road), what in said.items()):
            return False
    return True
