"""What is due to each partner at home, what they take, and what stays over for the next train."""

from sharetrail.amounts import NOTHING, less, lowest, plus, times, total
from sharetrail.books import (
    MOST_FIRST, held_by, is_partner, refuse_no_load, refuse_no_partner, refuse_no_prices, refuse_undone,
)
from sharetrail.errors import NoOrder, TooMany
from sharetrail.loads import mixed_shares, state_by


def refuse_no_order(book, order):
    """Refuses what is no tuple of unlike partners."""
    if not isinstance(order, tuple) or not all([is_partner(book[0], partner) for partner in order]):
        raise NoOrder("this is no tuple of partners")
    # Only now: what is no partner may be a thing that no set can hold.
    if len(set(order)) != len(order):
        raise NoOrder("a partner settles once")


def all_dues(book):
    """Of each load, by number, what is due of it to each partner."""
    hire = book[0][4]
    held, owners, holders = state_by(book, len(book[2]))
    dues = []
    for (kind, pieces), shares in zip(held, owners):
        parts = mixed_shares(shares, 10 - hire, holders, hire)
        dues.append(tuple([times((pieces, 1), part) for part in parts]))
    return dues


def put_in(book, partner, prices):
    """What the partner put in, by prices: of the first loads their share, and what they brought."""
    train, first, deeds = book
    amounts = [times((pieces * prices[kind], 1), owners[partner]) for kind, pieces, owners in first]
    brought = [deed[3] * prices[deed[2]] for deed in deeds if deed[0] == "bring" and deed[1] == partner]
    return plus(total(amounts), (sum(brought), 1))


def worth_of_dues(book, partner, prices):
    """What all the dues of the partner are worth by prices."""
    held = held_by(book, len(book[2]))
    return total([times((prices[kind], 1), dues[partner]) for (kind, pieces), dues in zip(held, all_dues(book))])


def cut_of(train, gain):
    """The leader's part of a gain; of what is no gain there is none."""
    if gain[0] <= 0:
        return NOTHING
    return times(gain, lowest(train[5], 10))


def due_of(book, partner, load):
    """What is due to the partner of the load at home."""
    refuse_undone(book)
    refuse_no_partner(book, partner)
    refuse_no_load(book, load)
    return all_dues(book)[load][partner]


def account_of(book, partner, ahead, later):
    """The partner's (put, worth, gain, cut), by the prices ahead and those at home."""
    refuse_undone(book)
    refuse_no_partner(book, partner)
    refuse_no_prices(book, ahead)
    refuse_no_prices(book, later)
    put = put_in(book, partner, ahead)
    worth = worth_of_dues(book, partner, later)
    gain = less(worth, put)
    return (put, worth, gain, cut_of(book[0], gain))


def whole_pieces(due):
    """The whole pieces of what is due."""
    return due[0] // due[1]


def taken_by(dues, partner):
    """The list of tuples (load, pieces), rising, of what the partner takes."""
    # The dues of a load add up to its pieces, so nobody's whole pieces are gone when they come to settle.
    takes = [(load, whole_pieces(each[partner])) for load, each in enumerate(dues)]
    return [(load, pieces) for load, pieces in takes if pieces > 0]


def settled(book, order):
    """What each partner of the order takes, in the order, and how many pieces each load has then."""
    refuse_undone(book)
    refuse_no_order(book, order)
    dues = all_dues(book)
    taken = [taken_by(dues, partner) for partner in order]
    left = [pieces for kind, pieces in held_by(book, len(book[2]))]
    for takes in taken:
        for load, pieces in takes:
            left[load] -= pieces
    return (taken, tuple(left))


def takes_of(book, partner):
    """The list of tuples (load, pieces), rising, of what the partner takes, whenever they settle."""
    refuse_undone(book)
    refuse_no_partner(book, partner)
    return taken_by(all_dues(book), partner)


def over_told(book):
    """The loads that stay over, by number, of a book whose deeds can be done."""
    held = held_by(book, len(book[2]))
    over = []
    for (kind, pieces), dues in zip(held, all_dues(book)):
        still = [less(due, (whole_pieces(due), 1)) for due in dues]
        # What is still due is due of the pieces that are left, so it adds up to them.
        left = whole_pieces(total(still))
        if left > 0:
            over.append((kind, left, tuple([times(amount, (1, left)) for amount in still])))
    return tuple(over)


def stays_over(book):
    """The loads that have pieces when all have settled, by number, with owners by what is still due."""
    refuse_undone(book)
    return over_told(book)


def next_book(book):
    """The book of the next train: the same one, with the holders of now, what stays over, and no deeds."""
    refuse_undone(book)
    over = over_told(book)
    if len(over) > MOST_FIRST:
        raise TooMany("more loads stay over than a book begins with")
    partners, kinds, beasts, ahead, hire, part = book[0]
    held, owners, holders = state_by(book, len(book[2]))
    return ((partners, kinds, beasts, holders, hire, part), over, ())
