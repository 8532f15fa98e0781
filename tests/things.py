"""Things that several tests hand in."""

import random
from fractions import Fraction


def nested(deep, wrap):
    thing = 1
    for _ in range(deep):
        thing = wrap(thing)
    return thing


# Of whatever kind, and none of them a share, a train, a load, a deed or a book.
WHATEVER = [
    0, 1, -1, 7, 10 ** 39, -(10 ** 39), 10 ** 40 - 1,
    "", "1", "1/2", "bring", "sell", "a" * 4000,
    True, False, None,
    [], (), {}, [[]], ((),), {"a": {}}, [None], (None,), {0: None},
    (True,), (True, True), (False, True), (None, None), ("bring",), ("sell", None, None, None),
    ([], 1), ({}, 1), (1, []), (1, {}), ((), ()), (1, 0), (0, 0), (0, 2), (2, 2), (1, -1), (3, 2), (-1, 2),
    [1, 2], {1: 2}, "12", ("1", "2"), ((1,), (2,)),
    (1, 2, 3), ([], [], []), ({}, {}, {}), ((), (), ()), (None, None, None),
    (None,) * 6, (1,) * 6, ((1, 1),) * 6, ([],) * 4, ({},) * 4, ([], 0, 0, 1), ({}, 0, 0, 1), ((), 0, 0, 1),
    (0, 0, 0, 0), (True, 0, 0, 1), (None, 0, 0, 1),
    nested(30, lambda thing: [thing]), nested(30, lambda thing: (thing,)), nested(30, lambda thing: {1: thing}),
    tuple(range(9000)), list(range(9000)), {k: k for k in range(4500)}, ((1, 2),) * 3000, ("bring",) * 9000,
]

# None of them a whole number from 0 on.
NO_NUMBERS = [
    True, False, None, -1, -(10 ** 39), "", "0", "1", [], [1], (), (1,), (1, 1), {}, {1: 1},
    nested(30, lambda thing: (thing,)),
]

HALVES = ((1, 2), (1, 2))
TRAIN = (2, 3, 5, HALVES, 1, 2)


def with_part(thing, at, part):
    """The tuple with another part at one place."""
    return thing[:at] + (part,) + thing[at + 1:]


def amount(fraction):
    return (fraction.numerator, fraction.denominator)


def fraction(told):
    return Fraction(*told)


def shares_at_random(chance, partners, most):
    """Shares that are a whole; some of them may be 0."""
    parts = [chance.choice((0, 1, chance.randint(1, most))) for _ in range(partners)]
    if sum(parts) == 0:
        parts[chance.randrange(partners)] = 1
    return tuple(amount(Fraction(part, sum(parts))) for part in parts)


def deed_at_random(chance, train, held, word, most):
    """A deed of this word that can be done, held being each load's kind and pieces; None where there is none."""
    partners, kinds = train[0], train[1]
    full = [load for load, (kind, pieces) in enumerate(held) if pieces > 0]
    if word == "bring":
        return (word, chance.randrange(partners), chance.randrange(kinds), chance.randint(1, most))
    if word == "sell" and partners > 1:
        return (word, *chance.sample(range(partners), 2), amount(Fraction(chance.randint(1, 12), 12)))
    if word == "pool":
        pairs = [(one, two) for one in full for two in full if one != two and held[one][0] == held[two][0]]
        return (word, *chance.choice(pairs)) if pairs else None
    if word == "sell" or not full:
        return None
    load = chance.choice(full)
    kind, pieces = held[load]
    many = chance.choice((pieces, chance.randint(1, pieces)))
    if word == "spoil":
        return (word, load, many)
    if word == "throw":
        return (word, load, many, tuple(chance.randint(1, 99) for _ in range(kinds + 1)))
    other = [number for number in range(kinds) if number != kind]
    return (word, load, many, chance.choice(other), chance.randint(1, most)) if other else None


def held_behind(held, deed):
    """Each load's kind and pieces behind a deed, told as plainly as can be."""
    held = list(held)
    word = deed[0]
    if word == "bring":
        held.append((deed[2], deed[3]))
    elif word == "pool":
        (kind, one), (_, two) = held[deed[1]], held[deed[2]]
        held[deed[1]] = held[deed[2]] = (kind, 0)
        held.append((kind, one + two))
    elif word in ("swap", "trade"):
        load, given, kind, got = deed[-4:]
        held[load] = (held[load][0], held[load][1] - given)
        held.append((kind, got))
    elif word in ("spoil", "throw"):
        held[deed[1]] = (held[deed[1]][0], held[deed[1]][1] - deed[2])
    return held


def book_at_random(seed, most=30):
    """A book whose deeds can be done; of equal seeds equal books."""
    chance = random.Random(seed)
    partners, kinds = chance.randint(1, 4), chance.randint(1, 5)
    train = (partners, kinds, chance.randint(1, 20), shares_at_random(chance, partners, 9), 1, 2)
    first = tuple(
        (chance.randrange(kinds), chance.randint(1, most), shares_at_random(chance, partners, 9))
        for _ in range(chance.randint(0, 4))
    )
    held = [load[:2] for load in first]
    deeds = []
    words = ["bring", "pool", "pool", "pool", "swap", "swap", "trade", "spoil", "throw", "sell"]
    most_deeds = chance.choice((chance.randint(0, 20), 20))
    # Some tries find no deed that can be done.
    for _ in range(60):
        if len(deeds) == most_deeds:
            break
        word = chance.choice(words)
        deed = deed_at_random(chance, train, held, "swap" if word == "trade" else word, most)
        many = [done[0] for done in deeds].count(word)
        if deed is None or (word == "throw" and many == 3) or (word == "trade" and many == 10):
            continue
        deed = ("trade", 9 - many) + deed[1:] if word == "trade" else deed
        deeds.append(deed)
        held = held_behind(held, deed)
    return (train, first, tuple(deeds))


BOOKS = [book_at_random(seed) for seed in range(80)] + [book_at_random(seed, 10 ** 39) for seed in range(80, 100)]

WORTHS = (1, 2, 3, 4)
# All seven words, of the train TRAIN; the loads 0 and 1 are of kind 0, load 2 of kind 1.
MIXED = (
    TRAIN,
    ((0, 10, ((1, 3), (2, 3))), (0, 4, ((1, 1), (0, 1))), (1, 6, HALVES)),
    (
        ("bring", 1, 0, 6),             # 3
        ("pool", 3, 0),                 # 4, of 0 and 3
        ("sell", 0, 1, (1, 4)),
        ("swap", 4, 5, 2, 9),           # 5
        ("throw", 4, 3, WORTHS),
        ("trade", 7, 5, 9, 0, 2),       # 6
        ("pool", 6, 4),                 # 7, of 4 and 6
        ("spoil", 2, 6),
        ("throw", 7, 4, (5, 1, 7, 2)),
        ("pool", 1, 7),                 # 8, of 1 and 7
        ("sell", 1, 0, (5, 6)),
        ("bring", 1, 2, 5),             # 9
        ("throw", 9, 5, (1, 1, 1, 1)),
    ),
)
# The same with a deed that can't be done in the midst, at place 4, and more such behind.
UNDONE = (TRAIN, MIXED[1], MIXED[2][:4] + (("spoil", 0, 1), ("pool", 0, 2)) + MIXED[2][4:])


def other_books(book):
    """Books that differ from the book in one deed more, one first load otherwise, the holders."""
    train, first, deeds = book
    turned = (first[0][0], first[0][1] + 1, first[0][2][::-1])
    return [
        (train, first, deeds + (("bring", 0, 1, 7),)),
        (train, first, deeds[:-1]),
        (train, (turned,) + first[1:], deeds),
        (with_part(train, 3, ((1, 7), (6, 7))), first, deeds),
        (train, first, (("sell", 1, 0, (1, 12)),) + deeds),
    ]
