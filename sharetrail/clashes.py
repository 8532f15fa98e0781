"""The trades of a book, and where the books of two leaders clash."""

from sharetrail.amounts import is_same
from sharetrail.books import held_by, refuse_undone


def trades_told(book):
    """The trades (number, kind, given, other, got), rising, of a book whose deeds can be done."""
    # A load keeps its kind, so the loads behind all deeds tell it for every trade.
    held = held_by(book, len(book[2]))
    trades = []
    for deed in book[2]:
        if deed[0] == "trade":
            number, load, given, other, got = deed[1:]
            trades.append((number, held[load][0], given, other, got))
    return sorted(trades)


def seen_from_there(trade):
    """The trade as it stands in the other leader's book; None where there is none."""
    if trade is None:
        return None
    number, kind, given, other, got = trade
    return (number, other, got, kind, given)


def clashes_told(book, other):
    """All clashes (number, mine, other) of two books whose deeds can be done, rising."""
    mine = {trade[0]: trade for trade in trades_told(book)}
    theirs = {trade[0]: trade for trade in trades_told(other)}
    numbers = sorted(set(list(mine) + list(theirs)))
    pairs = [(number, mine.get(number), theirs.get(number)) for number in numbers]
    return [pair for pair in pairs if pair[1] != seen_from_there(pair[2])]


def trades_of(book):
    """The list of the book's trades (number, kind, given, other, got), rising."""
    refuse_undone(book)
    return trades_told(book)


def first_clash(book, other):
    """The clash (number, mine, other) of the least number, None where the books don't clash."""
    refuse_undone(book)
    refuse_undone(other)
    clashes = clashes_told(book, other)
    return clashes[0] if len(clashes) > 0 else None


def clash_holds(book, other, thing):
    """Whether a thing of whatever kind is a clash of the two books, at whichever number."""
    refuse_undone(book)
    refuse_undone(other)
    return any([is_same(thing, clash) for clash in clashes_told(book, other)])
