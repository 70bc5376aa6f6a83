"""What a worker does in the three stages of a step, by what it knows and by the letters of the stage."""

from carfax.crossings import crossed
from carfax.cuttings import letters_from, letters_to, owner
from carfax.nets import ends
from carfax.roads import asks, changed_lanes, entered_lanes, entering, heads, leaving, moved_lanes
from carfax.states import outside

STAGES = 3
USES = ((), ("ask", "heads"), ("let", "come"))
TELLS = (("ask", "heads"), ("let", "come"), ())


class Share:
    """What a worker knows at all times: the net, the cars, and what of the net is its own.

    For each stage, `uses` has the pairs of a kind and a road of the letters that the worker gets for it, and `tells`
    those that it sends in it, in their order.
    """

    def __init__(self, net, cars, cutting, worker):
        self.net = net
        self.cars = cars
        self.roads = [road for road, other in enumerate(cutting) if other == worker]
        self.crossings = [crossing for crossing in range(len(net[1])) if owner(net, cutting, crossing) == worker]
        self.uses = by_stages(USES, letters_to(net, cutting, worker))
        self.tells = by_stages(TELLS, letters_from(net, cutting, worker))


class Known:
    """What a worker knows before a stage of what is on its own roads. It is never changed.

    `lanes` has the lanes of each of its roads, `waiting` the cars outside that begin on them, `arrived` the pairs of a
    car whose way ends on them and the time at which it had left, and `said` what the worker has said in this step so
    far, to itself too, by kind and road.
    """

    def __init__(self, lanes, waiting, arrived, said):
        self.lanes = lanes
        self.waiting = waiting
        self.arrived = arrived
        self.said = said


def by_stages(kinds_of_stages, pairs):
    """Return for each stage those of the pairs that have one of its kinds, the kind that is named first before."""
    return [[pair for kind in kinds for pair in pairs if pair[0] == kind] for kinds in kinds_of_stages]


def known_at_first(share, state):
    """Return what a worker knows of the state before the first stage."""
    cars = share.cars
    lanes = {road: state[1][road] for road in share.roads}
    waiting = [car for car in outside(cars, state) if cars[car][1][0] in share.roads]
    arrived = [(car, time) for car, time in state[2] if cars[car][1][-1] in share.roads]
    return Known(lanes, waiting, arrived, {})


def known_behind(share, time, stage, known, letters):
    """Return what a worker knows behind the stage; `letters` has what it uses of them, by kind and road."""
    if stage == 0:
        return behind_changes(share, time, known)
    told = {**known.said, **letters}
    if stage == 1:
        return behind_crossings(share, time, known, told)
    return behind_moves(share, time, known, told)


def behind_changes(share, time, known):
    """Return what a worker knows behind the changes of lane."""
    lanes = {road: changed_lanes(share.net, road, known.lanes[road], time) for road in share.roads}
    said = {}
    for road in share.roads:
        said[("ask", road)] = tuple(asks(share.net, share.cars, road, lanes[road]))
        said[("heads", road)] = heads(lanes[road])
    return Known(lanes, known.waiting, known.arrived, said)


def behind_crossings(share, time, known, told):
    """Return what a worker knows when it has gone through the cars that ask at its crossings."""
    said = {key: known.said[key] for key in known.said}
    for crossing in share.crossings:
        asked_on = {road: told[("ask", road)] for road in ends(share.net)[crossing]}
        first_cars = {road: told[("heads", road)] for road in share.net[1][crossing][1]}
        lets, comes = crossed(share.net, crossing, time, asked_on, first_cars)
        for road, lanes in lets.items():
            said[("let", road)] = tuple(sorted(lanes))
        for road, coming in comes.items():
            said[("come", road)] = tuple(sorted(coming))
    return Known(known.lanes, known.waiting, known.arrived, said)


def behind_moves(share, time, known, told):
    """Return what a worker knows behind the moves and the entering: before the next step."""
    new = {}
    arrived = list(known.arrived)
    entered = []
    for road in share.roads:
        lanes = known.lanes[road]
        away = leaving(share.net, share.cars, road, lanes)
        arrived.extend([(car, time + 1) for _, car in away])
        gone = [lane for lane, _ in away] + lanes_let(road, told)
        behind = moved_lanes(share.net, road, lanes, gone, cars_coming(road, told))
        car = entering(share.cars, road, time, behind, known.waiting)
        entered.append(car)
        new[road] = entered_lanes(behind, car)
    waiting = [car for car in known.waiting if car not in entered]
    return Known(new, waiting, arrived, {})


def lanes_let(road, told):
    """Return the lanes of the road whose front cars are let through and do ask."""
    asked = [ask[0] for ask in told[("ask", road)]]
    return [lane for lane in told.get(("let", road), ()) if lane in asked]


def cars_coming(road, told):
    """Return the cars that come to the road, for lanes whose cell 0 is free."""
    first_cars = told[("heads", road)]
    return [come for come in told.get(("come", road), ()) if first_cars[come[0]] == -1]
