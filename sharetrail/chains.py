"""From which goods that set out the pieces of a load come, and by which swaps and pools."""

from sharetrail.amounts import is_within
from sharetrail.books import (
    MAKERS, held_at_first, held_behind, held_by, made_from, many_loads, refuse_no_load, refuse_undone,
)
from sharetrail.errors import NoLoad
from sharetrail.loads import all_to_one, made_shares, sums_by_kinds


def all_sources(book):
    """Of each load of the book, by number, the loads that it is made of; of a root none."""
    first, deeds = book[1], book[2]
    return [[] for load in first] + [made_from(deed) for deed in deeds if deed[0] in MAKERS]


def all_origins(book):
    """Of each load of the book, by number, its share of each load, which is above 0 of roots alone."""
    many = many_loads(book, len(book[2]))
    held = held_at_first(book)
    origins = [all_to_one(many, root) for root in range(len(held))]
    for deed in book[2]:
        if deed[0] == "bring":
            origins.append(all_to_one(many, len(origins)))
        elif deed[0] in MAKERS:
            origins.append(made_shares(held, origins, deed))
        held = held_behind(held, deed)
    return origins


def made_of(book, load):
    """The loads that the load is made of, in order of their numbers."""
    refuse_undone(book)
    refuse_no_load(book, load)
    return all_sources(book)[load]


def origins_of(book, load):
    """The list of tuples (root, share), rising, of the roots that the load has a share of."""
    refuse_undone(book)
    refuse_no_load(book, load)
    return [(root, share) for root, share in enumerate(all_origins(book)[load]) if share[0] > 0]


def is_chain(book, load, thing):
    """Whether a thing of whatever kind is a chain of the load."""
    refuse_undone(book)
    refuse_no_load(book, load)
    if not isinstance(thing, tuple) or len(thing) == 0:
        return False
    sources = all_sources(book)
    if not all([is_within(number, 0, len(sources) - 1) for number in thing]):
        return False
    if thing[-1] != load or len(sources[thing[0]]) > 0:
        return False
    return all([number in sources[behind] for number, behind in zip(thing, thing[1:])])


def first_chain(book, load):
    """The first chain of the load, as tuples compare."""
    refuse_undone(book)
    refuse_no_load(book, load)
    chains = []
    for number, sources in enumerate(all_sources(book)):
        # The number is put behind ahead of comparing: (0,) is below (0, 1, 2), but (0, 3) is above (0, 1, 2, 3).
        longer = [chains[source] + (number,) for source in sources]
        chains.append(min(longer, default=(number,)))
    return chains[load]


def many_chains(book, load):
    """How many chains the load has."""
    refuse_undone(book)
    refuse_no_load(book, load)
    numbers = []
    for sources in all_sources(book):
        # There may be far more chains than loads, so they are counted by the loads that they come by.
        numbers.append(sum([numbers[source] for source in sources]) if len(sources) > 0 else 1)
    return numbers[load]


def reached(book, load):
    """The rising list of the loads that have an origin in the root, itself too."""
    refuse_undone(book)
    refuse_no_load(book, load)
    if len(all_sources(book)[load]) > 0:
        raise NoLoad("the load is no root")
    return [number for number, shares in enumerate(all_origins(book)) if shares[load][0] > 0]


def come_home(book):
    """For each root (root, amounts): how many pieces of each kind that are there behind all deeds come from it."""
    refuse_undone(book)
    held = held_by(book, len(book[2]))
    origins = all_origins(book)
    roots = [load for load, sources in enumerate(all_sources(book)) if len(sources) == 0]
    return [(root, sums_by_kinds(book[0][1], held, [shares[root] for shares in origins])) for root in roots]
