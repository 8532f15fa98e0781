"""The book without a sale, and what the sale turned of each partner."""

from sharetrail.amounts import less_each
from sharetrail.books import is_place_of, refuse_undone
from sharetrail.errors import NoSale
from sharetrail.loads import theirs_told


def refuse_no_sale(book, place):
    """Refuses what is no place of a sale."""
    if not is_place_of(book, "sell", place):
        raise NoSale("the book has no sale at this place")


def without_deed(book, place):
    """The book without the deed at the place."""
    train, first, deeds = book
    return (train, first, deeds[:place] + deeds[place + 1:])


def unsold(book, place):
    """The book without the sale at the place."""
    refuse_undone(book)
    refuse_no_sale(book, place)
    return without_deed(book, place)


def turned_by(book, place):
    """For each partner, by kinds, what is theirs behind all deeds less what would be theirs without the sale."""
    refuse_undone(book)
    refuse_no_sale(book, place)
    without = without_deed(book, place)
    with_it, without_it = theirs_told(book, len(book[2])), theirs_told(without, len(without[2]))
    return tuple([less_each(theirs, others) for theirs, others in zip(with_it, without_it)])
