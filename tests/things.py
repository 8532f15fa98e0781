"""Things that several tests hand in."""


def nested(deep, wrap):
    thing = 1
    for _ in range(deep):
        thing = wrap(thing)
    return thing


# Of whatever kind, and none of them a share, a train, a load, a deed or a book.
WHATEVER = [
    0, 1, -1, 7, 10 ** 39, -(10 ** 39), 10 ** 40 - 1,
    "", "1", "1/2", "bring", "sell", "a" * 4000,
    True, False, None,
    [], (), {}, [[]], ((),), {"a": {}}, [None], (None,), {0: None},
    (True,), (True, True), (False, True), (None, None), ("bring",), ("sell", None, None, None),
    ([], 1), ({}, 1), (1, []), (1, {}), ((), ()), (1, 0), (0, 0), (0, 2), (2, 2), (1, -1), (3, 2), (-1, 2),
    [1, 2], {1: 2}, "12", ("1", "2"), ((1,), (2,)),
    (1, 2, 3), ([], [], []), ({}, {}, {}), ((), (), ()), (None, None, None),
    (None,) * 6, (1,) * 6, ((1, 1),) * 6, ([],) * 4, ({},) * 4, ([], 0, 0, 1), ({}, 0, 0, 1), ((), 0, 0, 1),
    (0, 0, 0, 0), (True, 0, 0, 1), (None, 0, 0, 1),
    nested(30, lambda thing: [thing]), nested(30, lambda thing: (thing,)), nested(30, lambda thing: {1: thing}),
    tuple(range(9000)), list(range(9000)), {k: k for k in range(4500)}, ((1, 2),) * 3000, ("bring",) * 9000,
]

# None of them a whole number from 0 on.
NO_NUMBERS = [
    True, False, None, -1, -(10 ** 39), "", "0", "1", [], [1], (), (1,), (1, 1), {}, {1: 1},
    nested(30, lambda thing: (thing,)),
]

HALVES = ((1, 2), (1, 2))
TRAIN = (2, 3, 5, HALVES, 1, 2)


def with_part(thing, at, part):
    """The tuple with another part at one place."""
    return thing[:at] + (part,) + thing[at + 1:]
