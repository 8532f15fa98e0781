"""The loads and the beasts behind so many deeds of a book, and whose they are."""

from sharetrail.amounts import ALL, NOTHING, less, lowest, mixed, plus, times
from sharetrail.books import (
    MAKERS, held_at_first, held_behind, made_from, refuse_no_number, refuse_no_partner, refuse_undone,
)


def all_to_one(many, one):
    """So many shares, of which one has all."""
    return tuple([ALL if at == one else NOTHING for at in range(many)])


def mixed_shares(shares, weight, others, more):
    """The shares of what is mixed of two things, by so much of the one and so much of the other."""
    return tuple([mixed(share, weight, other, more) for share, other in zip(shares, others)])


def made_shares(held, shares, deed):
    """The shares of the load that a pool, a swap or a trade makes, by those of the loads that it is made of."""
    sources = made_from(deed)
    if len(sources) == 1:
        return shares[sources[0]]
    load, other = sources
    return mixed_shares(shares[load], held[load][1], shares[other], held[other][1])


def worth_of_all(train, held, worths):
    """What all loads and all beasts are worth."""
    return sum([pieces * worths[kind] for kind, pieces in held]) + train[2] * worths[-1]


def part_thrown(train, held, deed):
    """The part of all that a throw costs, held being each load's kind and pieces ahead of it."""
    load, pieces, worths = deed[1:]
    return lowest(pieces * worths[held[load][0]], worth_of_all(train, held, worths))


def thrown_shares(train, held, owners, deed, shares):
    """What the shares of a load, or of the beasts, become by a throw."""
    top, bottom = part_thrown(train, held, deed)
    return mixed_shares(shares, bottom - top, owners[deed[1]], top)


def sold_shares(deed, shares):
    """What the shares of a load, or of the beasts, become by a sale."""
    partner, other, sold = deed[1:]
    passed = times(shares[partner], sold)
    changed = list(shares)
    changed[partner] = less(shares[partner], passed)
    changed[other] = plus(shares[other], passed)
    return tuple(changed)


def shares_behind(train, held, owners, deed, shares):
    """What the shares of a load, or of the beasts, that were there ahead of the deed become by it."""
    if deed[0] == "throw":
        return thrown_shares(train, held, owners, deed, shares)
    if deed[0] == "sell":
        return sold_shares(deed, shares)
    return shares


def owners_behind(train, held, owners, deed):
    """The owners of each load behind a deed, held and owners being those ahead of it."""
    behind = [shares_behind(train, held, owners, deed, shares) for shares in owners]
    if deed[0] == "bring":
        return behind + [all_to_one(train[0], deed[1])]
    if deed[0] in MAKERS:
        return behind + [made_shares(held, owners, deed)]
    return behind


def state_by(book, many):
    """Each load's kind and pieces, each load's owners, and the holders, behind so many deeds."""
    train, first, deeds = book
    held = held_at_first(book)
    owners = [load[2] for load in first]
    holders = train[3]
    for deed in deeds[:many]:
        holders = shares_behind(train, held, owners, deed, holders)
        owners = owners_behind(train, held, owners, deed)
        held = held_behind(held, deed)
    return (held, owners, holders)


def sums_by_kinds(kinds, held, shares):
    """Of each kind the pieces of its loads, each times the share of it, added up."""
    sums = [NOTHING] * kinds
    for (kind, pieces), share in zip(held, shares):
        sums[kind] = plus(sums[kind], times((pieces, 1), share))
    return tuple(sums)


def theirs_told(book, many):
    """What is each partner's behind so many deeds that can be done, by kinds."""
    partners, kinds = book[0][:2]
    held, owners, holders = state_by(book, many)
    return [sums_by_kinds(kinds, held, [shares[partner] for shares in owners]) for partner in range(partners)]


def loads_by(book, many):
    """The list of the loads behind so many deeds, by number."""
    refuse_undone(book)
    refuse_no_number(book, many)
    held, owners, holders = state_by(book, many)
    return [(kind, pieces, shares) for (kind, pieces), shares in zip(held, owners)]


def holders_by(book, many):
    """Whose the beasts are behind so many deeds."""
    refuse_undone(book)
    refuse_no_number(book, many)
    held, owners, holders = state_by(book, many)
    return holders


def theirs_by(book, many, partner):
    """What is the partner's behind so many deeds, by kinds."""
    refuse_undone(book)
    refuse_no_number(book, many)
    refuse_no_partner(book, partner)
    return theirs_told(book, many)[partner]
