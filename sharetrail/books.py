"""Shares, trains, loads, deeds and books; which deeds can be done, and the loads that they make."""

from sharetrail.amounts import ALL, is_amount, is_from, is_within, total
from sharetrail.errors import NoLoad, NoNumber, NoPartner, NoPrices, NotDone

MOST_FIRST = 4
MOST_DEEDS = 20
MOST_THROWS = 3

# Deeds differ in what stands behind their word alone, so one table serves instead of seven checks.
FORMS = {
    "bring": ("partner", "kind", "pieces"),
    "pool": ("load", "load"),
    "swap": ("load", "pieces", "kind", "pieces"),
    "trade": ("number", "load", "pieces", "kind", "pieces"),
    "spoil": ("load", "pieces"),
    "throw": ("load", "pieces", "worths"),
    "sell": ("partner", "partner", "share"),
}

# A load isn't pooled with itself, and nobody sells to themselves.
UNLIKE = ("pool", "sell")

# The deeds that make a load, and so take the next number.
MAKERS = ("bring", "pool", "swap", "trade")


def is_tuple_of(thing, many):
    """Whether a thing of whatever kind is a tuple of so many things."""
    return isinstance(thing, tuple) and len(thing) == many


def is_share(thing):
    """Whether a thing of whatever kind is a share."""
    return is_amount(thing) and 0 <= thing[0] <= thing[1]


def are_owners(partners, thing):
    """Whether a thing of whatever kind has a share for each partner, all of them a whole."""
    if not is_tuple_of(thing, partners):
        return False
    return all([is_share(share) for share in thing]) and total(thing) == ALL


def is_train(thing):
    """Whether a thing of whatever kind is a train."""
    if not is_tuple_of(thing, 6):
        return False
    partners, kinds, beasts, holders, hire, part = thing
    if not (is_within(partners, 1, 4) and is_within(kinds, 1, 5) and is_within(beasts, 1, 20)):
        return False
    return are_owners(partners, holders) and is_within(hire, 0, 9) and is_within(part, 0, 9)


def is_partner(train, thing):
    """Whether a thing of whatever kind is a partner of the train."""
    return is_within(thing, 0, train[0] - 1)


def is_kind(train, thing):
    """Whether a thing of whatever kind is a kind of the train."""
    return is_within(thing, 0, train[1] - 1)


def is_load_number(train, thing):
    """Whether a thing of whatever kind may stand for a load, be it there or not."""
    return is_from(thing, 0)


def is_trade_number(train, thing):
    """Whether a thing of whatever kind may be the number of a trade."""
    return is_within(thing, 0, 9)


def are_pieces(train, thing):
    """Whether a thing of whatever kind may be the pieces of a deed."""
    return is_from(thing, 1)


def are_values(thing, many):
    """Whether a thing of whatever kind is a tuple of so many whole numbers from 1 to 99."""
    return is_tuple_of(thing, many) and all([is_within(value, 1, 99) for value in thing])


def are_worths(train, thing):
    """Whether a thing of whatever kind has a worth for each kind, and one for a beast."""
    return are_values(thing, train[1] + 1)


def is_sold_share(train, thing):
    """Whether a thing of whatever kind is a share that can be sold."""
    return is_share(thing) and thing[0] > 0 and thing[1] <= 12


# All are handed a train, needed or not, so that each can be called alike.
PARTS = {
    "partner": is_partner,
    "kind": is_kind,
    "load": is_load_number,
    "number": is_trade_number,
    "pieces": are_pieces,
    "worths": are_worths,
    "share": is_sold_share,
}


def is_part(train, part, thing):
    """Whether a thing of whatever kind is what the part of a deed's form asks for."""
    holds = PARTS[part]
    return holds(train, thing)


def is_load(train, thing):
    """Whether a thing of whatever kind is a load of the train."""
    if not is_tuple_of(thing, 3):
        return False
    kind, pieces, owners = thing
    return is_kind(train, kind) and is_from(pieces, 0) and are_owners(train[0], owners)


def is_deed(train, thing):
    """Whether a thing of whatever kind is a deed of the train."""
    if not isinstance(thing, tuple) or len(thing) == 0:
        return False
    word = thing[0]
    # A list or a dict can't be looked up, so the word is first known to be a text.
    if not isinstance(word, str) or word not in FORMS:
        return False
    form = FORMS[word]
    if len(thing) != len(form) + 1:
        return False
    if not all([is_part(train, part, thing[at + 1]) for at, part in enumerate(form)]):
        return False
    return word not in UNLIKE or thing[1] != thing[2]


def are_first(train, thing):
    """Whether a thing of whatever kind may be the loads that a book of the train begins with."""
    if not isinstance(thing, tuple) or len(thing) > MOST_FIRST:
        return False
    return all([is_load(train, load) and load[1] > 0 for load in thing])


def are_deeds(train, thing):
    """Whether a thing of whatever kind may be the deeds of a book of the train."""
    if not isinstance(thing, tuple) or len(thing) > MOST_DEEDS:
        return False
    if not all([is_deed(train, deed) for deed in thing]):
        return False
    return len([deed for deed in thing if deed[0] == "throw"]) <= MOST_THROWS


def is_book(thing):
    """Whether a thing of whatever kind is a book, whether its deeds can be done or not."""
    if not is_tuple_of(thing, 3):
        return False
    train, first, deeds = thing
    return is_train(train) and are_first(train, first) and are_deeds(train, deeds)


def has_pieces(held, load, pieces):
    """Whether the load is there, with so many pieces."""
    return load < len(held) and held[load][1] >= pieces


def can_pool(held, load, other):
    """Whether both loads are there, of one kind, each with a piece."""
    return has_pieces(held, load, 1) and has_pieces(held, other, 1) and held[load][0] == held[other][0]


def can_swap(held, load, given, kind):
    """Whether so many pieces of the load can be given for another kind."""
    return has_pieces(held, load, given) and held[load][0] != kind


def can_do(held, done, deed):
    """Whether the deed can be done, held being each load's kind and pieces, done the deeds ahead."""
    word = deed[0]
    if word == "pool":
        return can_pool(held, deed[1], deed[2])
    if word == "swap":
        return can_swap(held, deed[1], deed[2], deed[3])
    if word == "trade":
        numbers = [other[1] for other in done if other[0] == "trade"]
        return deed[1] not in numbers and can_swap(held, deed[2], deed[3], deed[4])
    if word in ("spoil", "throw"):
        return has_pieces(held, deed[1], deed[2])
    return True


def held_without(held, load, pieces):
    """Each load's kind and pieces, the load's so many less."""
    kind, there = held[load]
    return held[:load] + [(kind, there - pieces)] + held[load + 1:]


def held_behind(held, deed):
    """Each load's kind and pieces behind a deed that can be done, held being those ahead of it."""
    word = deed[0]
    if word == "bring":
        return held + [(deed[2], deed[3])]
    if word == "pool":
        kind, pieces = held[deed[1]]
        more = held[deed[2]][1]
        return held_without(held_without(held, deed[1], pieces), deed[2], more) + [(kind, pieces + more)]
    if word in ("swap", "trade"):
        load, given, kind, got = deed[-4:]
        return held_without(held, load, given) + [(kind, got)]
    if word in ("spoil", "throw"):
        return held_without(held, deed[1], deed[2])
    return held


def held_at_first(book):
    """The kind and the pieces of each load that the book begins with."""
    return [(load[0], load[1]) for load in book[1]]


def held_by(book, many):
    """Each load's kind and pieces behind so many deeds of a book whose deeds can be done."""
    held = held_at_first(book)
    for deed in book[2][:many]:
        held = held_behind(held, deed)
    return held


def made_from(deed):
    """The loads that the deed makes another one of, in order of their numbers."""
    word = deed[0]
    if word == "pool":
        return sorted([deed[1], deed[2]])
    if word in ("swap", "trade"):
        return [deed[-4]]
    return []


def first_wrong(book):
    """The place of the first deed that can't be done, None where all can."""
    held = held_at_first(book)
    deeds = book[2]
    for at, deed in enumerate(deeds):
        if not can_do(held, deeds[:at], deed):
            return at
        held = held_behind(held, deed)
    return None


def refuse_undone(book):
    """Refuses a book with a deed that can't be done."""
    wrong = first_wrong(book)
    if wrong is not None:
        raise NotDone(wrong)


def many_loads(book, many):
    """How many loads there are behind so many deeds, be they without pieces."""
    return len(book[1]) + len([deed for deed in book[2][:many] if deed[0] in MAKERS])


def is_place(book, thing):
    """Whether a thing of whatever kind is the place of a deed."""
    return is_within(thing, 0, len(book[2]) - 1)


def is_place_of(book, word, thing):
    """Whether a thing of whatever kind is the place of a deed of this word."""
    return is_place(book, thing) and book[2][thing][0] == word


def refuse_no_number(book, many):
    """Refuses what is no number of the book's deeds."""
    if not is_within(many, 0, len(book[2])):
        raise NoNumber("the book hasn't so many deeds")


def refuse_no_load(book, load):
    """Refuses what is no number of a load of the book, be it made by the last deed."""
    if not is_within(load, 0, many_loads(book, len(book[2])) - 1):
        raise NoLoad("the book makes no load of this number")


def refuse_no_partner(book, partner):
    """Refuses what is no partner of the book's train."""
    if not is_partner(book[0], partner):
        raise NoPartner("the train has no such partner")


def refuse_no_prices(book, prices):
    """Refuses what hasn't a price for each kind of the book's train."""
    if not are_values(prices, book[0][1]):
        raise NoPrices("these are no prices of the train's kinds")


def made_by(book, place):
    """The number of the load that the deed at the place made, None where it makes none."""
    refuse_undone(book)
    if not is_place(book, place):
        raise NoNumber("no deed of the book has this place")
    if book[2][place][0] not in MAKERS:
        return None
    return many_loads(book, place)
