"""Cuttings: which worker has which roads, and who tells whom what in each step."""

from carfax.errors import BadCutting
from carfax.forms import is_number, is_tuple
from carfax.nets import ends

LAST_WORKER = 3


def check_cutting(net, value):
    """Raise BadCutting if the value is no cutting of the net."""
    many = len(net[0])
    if not is_tuple(value, many, many) or not all(is_number(worker, 0, LAST_WORKER) for worker in value):
        raise BadCutting("the value has no number of a worker for each road")
    if len(set(value)) <= max(value):
        raise BadCutting("a worker has no road")


def owner(net, cutting, crossing):
    """Return the worker of the crossing, or -1 if it belongs to nobody."""
    ending = ends(net)[crossing]
    return cutting[ending[0]] if ending else -1


def letters_to(net, cutting, worker):
    """Return the ascending list of the pairs of a kind and a road for which the worker gets letters."""
    return [(kind, road) for kind, road, _, receiver in letters_due(net, cutting) if receiver == worker]


def letters_from(net, cutting, worker):
    """Return the ascending list of the pairs of a kind and a road for which the worker sends letters."""
    return [(kind, road) for kind, road, sender, _ in letters_due(net, cutting) if sender == worker]


def letters_due(net, cutting):
    """Return the ascending list of the tuples (kind, road, sender, receiver) of the letters of each step."""
    found = []
    for road, worker in enumerate(cutting):
        behind = worker_at(net, cutting, net[0][road][3])
        before = worker_at(net, cutting, crossing_before(net, road))
        found.append(("ask", road, worker, behind))
        found.append(("heads", road, worker, before))
        found.append(("let", road, behind, worker))
        found.append(("come", road, before, worker))
    return [told for told in sorted(found) if told[2] != told[3] and -1 not in told[2:]]


def worker_at(net, cutting, crossing):
    """Return the worker of the crossing, or -1 if it belongs to nobody or is none."""
    return owner(net, cutting, crossing) if crossing >= 0 else -1


def crossing_before(net, road):
    """Return the crossing at which the road begins, or -1."""
    for crossing, (_, outs) in enumerate(net[1]):
        if road in outs:
            return crossing
    return -1
