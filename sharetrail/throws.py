"""What a throw costs, and who bears how much of it."""

from sharetrail.amounts import is_same, plus, times, total
from sharetrail.books import held_by, is_place_of, refuse_undone
from sharetrail.errors import NoThrow
from sharetrail.loads import part_thrown, state_by


def refuse_no_throw(book, place):
    """Refuses what is no place of a throw."""
    if not is_place_of(book, "throw", place):
        raise NoThrow("the book has no throw at this place")


def worth_theirs(train, state, worths, partner):
    """What is the partner's by worths, of the loads and of the beasts."""
    held, owners, holders = state
    amounts = [times((pieces * worths[kind], 1), shares[partner]) for (kind, pieces), shares in zip(held, owners)]
    return plus(total(amounts), times((train[2] * worths[-1], 1), holders[partner]))


def bearing_told(book, place):
    """What is each partner's by worths ahead of a throw and behind it, as pairs."""
    train, worths = book[0], book[2][place][3]
    ahead, behind = state_by(book, place), state_by(book, place + 1)
    pairs = []
    for partner in range(train[0]):
        pairs.append((worth_theirs(train, ahead, worths, partner), worth_theirs(train, behind, worths, partner)))
    return tuple(pairs)


def cost_of(book, place):
    """The part of all that the throw at the place costs."""
    refuse_undone(book)
    refuse_no_throw(book, place)
    return part_thrown(book[0], held_by(book, place), book[2][place])


def bearing(book, place):
    """For each partner what is theirs by worths ahead of the throw at the place, and behind it."""
    refuse_undone(book)
    refuse_no_throw(book, place)
    return bearing_told(book, place)


def bearing_holds(book, place, thing):
    """Whether a thing of whatever kind is the bearing of the throw at the place."""
    refuse_undone(book)
    refuse_no_throw(book, place)
    return is_same(thing, bearing_told(book, place))
