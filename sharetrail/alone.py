"""What each partner would have had alone, and what they have more by the others."""

from sharetrail.amounts import less_each
from sharetrail.books import MAKERS, held_at_first, held_behind, refuse_no_partner, refuse_undone
from sharetrail.loads import all_to_one, made_shares, sums_by_kinds, theirs_told


def alone_told(book, partner):
    """What the partner would have had alone behind all deeds, by kinds; the deeds can be done."""
    train, first, deeds = book
    held = held_at_first(book)
    # Alone a partner has a steady share of a load's pieces: what goes of it goes of theirs by that very share.
    shares = [load[2] for load in first]
    for deed in deeds:
        if deed[0] == "bring":
            shares.append(all_to_one(train[0], deed[1]))
        elif deed[0] in MAKERS:
            shares.append(made_shares(held, shares, deed))
        held = held_behind(held, deed)
    return sums_by_kinds(train[1], held, [each[partner] for each in shares])


def alone_of(book, partner):
    """What the partner would have had alone behind all deeds, by kinds."""
    refuse_undone(book)
    refuse_no_partner(book, partner)
    return alone_told(book, partner)


def by_others(book, partner):
    """What the partner has more by the others, by kinds."""
    refuse_undone(book)
    refuse_no_partner(book, partner)
    return less_each(theirs_told(book, len(book[2]))[partner], alone_told(book, partner))
