"""A desk, which is told rows and answers each with a text."""

from sharetrail.alone import alone_of
from sharetrail.books import FORMS, refuse_no_load
from sharetrail.chains import first_chain, origins_of
from sharetrail.errors import NoRow
from sharetrail.home import takes_of
from sharetrail.leaders import Leader
from sharetrail.loads import holders_by, loads_by
from sharetrail.stops import stock_by
from sharetrail.texts import (
    amount_text, amounts_text, book_text, deed_read, load_text, number_read, number_text, numbers_text, train_read,
)
from sharetrail.throws import cost_of

FIRST_TRAIN = (1, 1, 1, ((1, 1),), 0, 0)
MOST_FIGURES = 40


def has_great_number(row):
    """Whether a number of the row has more figures than a row may tell."""
    # No word of a row is so long, so words and numbers needn't be told apart.
    words = row.replace("/", " ").replace(",", " ").split(" ")
    return any([len(word) > MOST_FIGURES for word in words])


def pairs_text(pairs):
    """Pairs of words, with blanks between, or none."""
    if len(pairs) == 0:
        return "none"
    return " ".join([f"{left}:{right}" for left, right in pairs])


def undone(leader):
    """The answer to `undo`."""
    leader.undo()
    return "ok"


def started(leader):
    """The answer to `start`."""
    leader.start()
    return "ok"


def book_answer(leader):
    """The answer to `book`."""
    return book_text(leader.book()).replace("\n", " ; ")


def holders_answer(leader):
    """The answer to `holders`."""
    book = leader.book()
    return amounts_text(holders_by(book, len(book[2])), ",")


def stock_answer(leader):
    """The answer to `stock`."""
    book = leader.book()
    return numbers_text(stock_by(book, len(book[2])), " ")


def load_answer(leader, load):
    """The answer to `load L`."""
    book = leader.book()
    refuse_no_load(book, load)
    return load_text(loads_by(book, len(book[2]))[load])


def has_answer(leader, partner):
    """The answer to `has P`."""
    return amounts_text(leader.theirs(partner), " ")


def origins_answer(leader, load):
    """The answer to `origins L`."""
    origins = origins_of(leader.book(), load)
    return pairs_text([(number_text(root), amount_text(share)) for root, share in origins])


def chain_answer(leader, load):
    """The answer to `chain L`."""
    return numbers_text(first_chain(leader.book(), load), " ")


def takes_answer(leader, partner):
    """The answer to `takes P`."""
    takes = takes_of(leader.book(), partner)
    return pairs_text([(number_text(load), number_text(pieces)) for load, pieces in takes])


def cost_answer(leader, place):
    """The answer to `cost A`."""
    return amount_text(cost_of(leader.book(), place))


def alone_answer(leader, partner):
    """The answer to `alone P`."""
    return amounts_text(alone_of(leader.book(), partner), " ")


# The rows that are one word.
PLAIN = {
    "undo": undone,
    "start": started,
    "book": book_answer,
    "holders": holders_answer,
    "stock": stock_answer,
}

# The rows that are a word and a number.
NUMBERED = {
    "load": load_answer,
    "has": has_answer,
    "origins": origins_answer,
    "chain": chain_answer,
    "takes": takes_answer,
    "cost": cost_answer,
    "alone": alone_answer,
}


class Desk:
    """Keeps a Leader, and does and tells what rows ask."""

    def __init__(self):
        self.leader = Leader(FIRST_TRAIN, ())

    def say(self, row):
        """The answer to the row."""
        if not isinstance(row, str) or has_great_number(row):
            raise NoRow("this is no row")
        word, blank, rest = row.partition(" ")
        if word == "train":
            return self.begin(row)
        if word in FORMS:
            return self.carry_out(row)
        if word in NUMBERED:
            return self.tell(word, rest)
        if row not in PLAIN:
            raise NoRow("no row begins with this word")
        answer = PLAIN[row]
        return answer(self.leader)

    def begin(self, row):
        """Begins anew with the train of the row."""
        train = train_read(row)
        if train is None:
            raise NoRow("no train is written so")
        self.leader = Leader(train, ())
        return "ok"

    def carry_out(self, row):
        """Does the deed of the row."""
        deed = deed_read(row)
        if deed is None:
            raise NoRow("no deed is written so")
        made = self.leader.do(deed)
        return "ok" if made is None else number_text(made)

    def tell(self, word, rest):
        """Tells what the word asks of the number behind it."""
        number = number_read(rest)
        if number is None:
            raise NoRow("a number stands behind this word")
        answer = NUMBERED[word]
        return answer(self.leader, number)
