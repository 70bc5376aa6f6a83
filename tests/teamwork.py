"""Teams that several tests use, and ways to make a certain move of a team."""

from carfax.steps import step
from tests.samples import state_with

# Roads 0 and 1 lead to road 2; road 1 has the right of way.
MERGE = (
    ((1, 4, 2, 0), (1, 4, 2, 0), (1, 5, 3, -1)),
    ((("order", (1, 0)), (2,)),),
)

MERGE_CARS = ((0, (0, 2)), (0, (1, 2)), (0, (2,)), (0, (1, 2)), (9, (1, 2)))

# Cars 0 and 1 want to go on to road 2, car 3 is behind car 1; car 2 has arrived, car 4 waits outside.
MERGE_STATE = state_with(
    MERGE, 4, {(0, 0): ((3, 0, 1, 0),), (1, 0): ((0, 3, 0, 0), (3, 1, 1, 0))}, ((2, 3),),
)

# The same, but with car 2 in cell 0 of road 2.
BLOCKED_STATE = state_with(
    MERGE, 4, {(0, 0): ((3, 0, 1, 0),), (1, 0): ((0, 3, 0, 0), (3, 1, 1, 0)), (2, 0): ((0, 2, 0, 0),)},
)

# Three roads in a ring, with a worker for each of them.
RING = (
    ((2, 3, 2, 0), (1, 4, 3, 1), (2, 3, 2, 2)),
    ((("order", (0,)), (1,)), (("lights", ((1, (1,)), (2, ()))), (2,)), (("order", (2,)), (0,))),
)

RING_CARS = tuple((car // 2, tuple((car + leg) % 3 for leg in range(6))) for car in range(9))


def make(team, *chosen):
    """Makes a move that the team must have."""
    team.move(team.moves().index(chosen))


def work(team, worker, stages=1):
    """Lets a worker do so many stages."""
    for _ in range(stages):
        make(team, "work", worker)


def mail(team, sender, receiver, letters=1):
    """Delivers so many letters."""
    for _ in range(letters):
        make(team, "mail", sender, receiver)


def finish(team):
    """Makes the last one of the moves until there are none, and returns their number."""
    made = 0
    while team.moves():
        team.move(len(team.moves()) - 1)
        made += 1
    return made


def plain(net, cars, state, until):
    """The state of the plain run from the state on."""
    while state[0] < until:
        state = step(net, cars, state)
    return state


def seen(team, workers):
    """All that a team of so many workers tells."""
    return (
        team.moves(), [team.where(worker) for worker in range(workers)], team.settled(), team.state(),
        team.log(), team.pending(), team.taken_back(),
    )
