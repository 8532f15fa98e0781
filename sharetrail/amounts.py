"""Whole numbers, what is the same to the last part, and amounts: tuples (top, bottom) in lowest terms."""

NOTHING = (0, 1)
ALL = (1, 1)


def is_whole(thing):
    """Whether a thing of whatever kind is a whole number."""
    # Python takes True and False for 1 and 0, the document doesn't.
    return isinstance(thing, int) and not isinstance(thing, bool)


def is_from(thing, low):
    """Whether a thing of whatever kind is a whole number from low on."""
    return is_whole(thing) and thing >= low


def is_within(thing, low, high):
    """Whether a thing of whatever kind is a whole number from low to high."""
    return is_from(thing, low) and thing <= high


def are_same(things, told):
    """Whether there are as many things as are told, each of them just the one told at its place."""
    return len(things) == len(told) and all([is_same(thing, told[at]) for at, thing in enumerate(things)])


def is_same(thing, told):
    """Whether a thing of whatever kind is just what is told: numbers, None, and lists and tuples of such."""
    # By == alone True would be 1, and tuples with True in them would be those with 1.
    if isinstance(told, tuple):
        return isinstance(thing, tuple) and are_same(thing, told)
    if isinstance(told, list):
        return isinstance(thing, list) and are_same(thing, told)
    if told is None:
        return thing is None
    return is_whole(thing) and thing == told


def greatest_divisor(one, other):
    """The greatest number that divides both, which are not both 0."""
    one, other = abs(one), abs(other)
    while other != 0:
        one, other = other, one % other
    return one


def is_amount(thing):
    """Whether a thing of whatever kind is an amount, its top perhaps below 0."""
    if not isinstance(thing, tuple) or len(thing) != 2:
        return False
    top, bottom = thing
    return is_whole(top) and is_from(bottom, 1) and greatest_divisor(top, bottom) == 1


def lowest(top, bottom):
    """The amount that top divided by bottom is; bottom is from 1 on."""
    divisor = greatest_divisor(top, bottom)
    return (top // divisor, bottom // divisor)


def plus(one, other):
    """Both amounts together."""
    return lowest(one[0] * other[1] + other[0] * one[1], one[1] * other[1])


def less(one, other):
    """The one amount less the other; its top may be below 0."""
    return lowest(one[0] * other[1] - other[0] * one[1], one[1] * other[1])


def less_each(ones, others):
    """Each of the amounts less the other one at its place."""
    return tuple([less(one, other) for one, other in zip(ones, others)])


def times(one, other):
    """The one amount times the other."""
    return lowest(one[0] * other[0], one[1] * other[1])


def mixed(one, weight, other, more):
    """The one amount so many times and the other so many times, divided by how many times that is."""
    top = one[0] * other[1] * weight + other[0] * one[1] * more
    return lowest(top, one[1] * other[1] * (weight + more))


def total(amounts):
    """All the amounts together."""
    together = NOTHING
    for amount in amounts:
        together = plus(together, amount)
    return together
