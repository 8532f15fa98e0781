"""What is there behind so many deeds of a book, and what came and went until then."""

from sharetrail.amounts import is_same
from sharetrail.books import held_at_first, held_behind, held_by, refuse_no_number, refuse_undone

# The order in which the flows of a kind are told.
FLOWS = ("out", "got", "given", "spoilt", "thrown", "left")


def moves_of(held, deed):
    """What a deed does, as tuples (kind, flow, pieces), held being each load's kind and pieces ahead of it."""
    word = deed[0]
    if word == "bring":
        return [(deed[2], "out", deed[3])]
    if word in ("swap", "trade"):
        load, given, kind, got = deed[-4:]
        return [(held[load][0], "given", given), (kind, "got", got)]
    if word == "spoil":
        return [(held[deed[1]][0], "spoilt", deed[2])]
    if word == "throw":
        return [(held[deed[1]][0], "thrown", deed[2])]
    # A pool and a sale leave the kinds as they are.
    return []


def moves_by(book, many):
    """What set out, what so many deeds do, and what is left then, as tuples (kind, flow, pieces)."""
    held = held_at_first(book)
    moves = [(kind, "out", pieces) for kind, pieces in held]
    for deed in book[2][:many]:
        moves = moves + moves_of(held, deed)
        held = held_behind(held, deed)
    return moves + [(kind, "left", pieces) for kind, pieces in held]


def pieces_moved(moves, kind, flow):
    """All the pieces of one kind that one flow has."""
    return sum([pieces for other, way, pieces in moves if other == kind and way == flow])


def flows_told(book, many):
    """The flows of each kind by so many deeds that can be done."""
    moves = moves_by(book, many)
    return tuple([tuple([pieces_moved(moves, kind, flow) for flow in FLOWS]) for kind in range(book[0][1])])


def stock_by(book, many):
    """How many pieces of each kind are there behind so many deeds."""
    refuse_undone(book)
    refuse_no_number(book, many)
    held = held_by(book, many)
    return tuple([sum([pieces for other, pieces in held if other == kind]) for kind in range(book[0][1])])


def flows_by(book, many):
    """For each kind (out, got, given, spoilt, thrown, left) by so many deeds."""
    refuse_undone(book)
    refuse_no_number(book, many)
    return flows_told(book, many)


def sheet_holds(book, thing):
    """Whether a thing of whatever kind is the list of the flows at each number of deeds."""
    refuse_undone(book)
    return is_same(thing, [flows_told(book, many) for many in range(len(book[2]) + 1)])
