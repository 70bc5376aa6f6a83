"""Nets and cars that several tests use, and ways to spoil a value."""

# Roads 0, 1 and 5 end at crossing 0, roads 2 and 4 at crossing 1, road 3 at none.
TOWN = (
    (
        (2, 10, 3, 0),
        (1, 5, 2, 0),
        (3, 20, 5, 1),
        (1, 2, 1, -1),
        (2, 7, 4, 1),
        (1, 6, 2, 0),
    ),
    (
        (("lights", ((3, (0,)), (1, ()), (2, (1, 5)))), (2, 3)),
        (("order", (4, 2)), (5,)),
        (("order", ()), (4,)),
        (("lights", ((1, ()),)), ()),
    ),
)

TOWN_CARS = (
    (0, (0, 2, 5, 2, 5, 3)),
    (50, (4, 5, 3)),
    (7, (0, 2)),
    (7, (3,)),
    (3, (2, 5)),
    (1, (1, 3)),
    (1, (4, 5)),
    (0, (0, 3)),
)

# Car 7 has arrived, car 1 and car 3 wait outside.
TOWN_STATE = (
    6,
    (
        (((2, 2, 0, 0),), ()),
        (((4, 5, 1, 0),),),
        ((), ((3, 4, 5, 0), (9, 0, 2, 3)), ()),
        ((),),
        (((0, 6, 0, 0),), ()),
        ((),),
    ),
    ((7, 5),),
)

LEAST = (((1, 2, 1, -1),), ())

GREATEST = (
    tuple((3, 20, 5, road % 8) for road in range(12)),
    tuple(
        (
            ("lights", ((9, tuple(range(at, 12, 8))),) * 4),
            tuple(range(4 * at, 4 * at + 4)) if at < 3 else (),
        )
        for at in range(8)
    ),
)


def rows_with(net, told):
    """Rows in which the cars are that are told by road and lane, and no others."""
    return tuple(tuple(told.get((road, lane), ()) for lane in range(kind[0])) for road, kind in enumerate(net[0]))


def state_with(net, time, told, arrived=()):
    """A state in which the cars are on roads that are told by road and lane, and no others."""
    return (time, rows_with(net, told), arrived)


def nested(depth):
    """A tuple in a tuple, and so on."""
    value = ()
    for _ in range(depth):
        value = (value,)
    return value


# Too deep for anything that looks into all of it by recursion.
DEEP = nested(20000)


def spots(value, path=()):
    """All (path, node) of the value itself and of what is in its tuples."""
    yield path, value
    if isinstance(value, tuple):
        for at, item in enumerate(value):
            yield from spots(item, path + (at,))


def put(value, path, new):
    """The value with another node at the path."""
    if not path:
        return new
    return value[:path[0]] + (put(value[path[0]], path[1:], new),) + value[path[0] + 1:]


def strangers(node):
    """Values that can stand in the place of the node in no net, no cars and no state."""
    found = [None, True, False, "", "lights ", [], [node], (node,), DEEP, [DEEP]]
    if isinstance(node, int):
        found += [str(node), 10 ** 30, -10 ** 30, 10 ** 5000, -10 ** 5000]
    elif isinstance(node, str):
        found += [0, 1, (), node.upper(), node + " ", node[:-1], tuple(node), list(node)]
    else:
        found += [0, 1, -1, list(node), "x" * len(node)]
    return found


def spoiled(value):
    """All values that have a stranger in one place of the value: the path, the number of the stranger, the value."""
    for path, node in spots(value):
        for at, stranger in enumerate(strangers(node)):
            yield path, at, put(value, path, stranger)


def lists_for_tuples(value):
    """The value with all of its tuples as lists."""
    if isinstance(value, tuple):
        return [lists_for_tuples(item) for item in value]
    return value


def frozen(value):
    """Text that tells a value from every other one, with the classes of its parts."""
    if isinstance(value, (list, tuple)):
        return f"{type(value).__name__}({','.join(frozen(item) for item in value)})"
    return f"{type(value).__name__} {value!r}"
