"""[5], [6], [112]: a desk, the rows that it knows, its answers and its refusals."""

import copy
import random
import unittest

from sharetrail.alone import alone_of
from sharetrail.chains import first_chain, origins_of
from sharetrail.desk import Desk
from sharetrail.errors import (
    NoDeed, NoLoad, NoNext, NoPartner, NoRow, NotDone, NothingDone, NoThrow, NoTrain, TooMany, TrailError,
)
from sharetrail.home import takes_of
from sharetrail.leaders import Leader
from sharetrail.loads import holders_by, loads_by, theirs_by
from sharetrail.stops import stock_by
from sharetrail.texts import book_text, deed_text
from sharetrail.throws import cost_of
from things import BOOKS, MIXED, NO_NUMBERS, TRAIN, WHATEVER, other_books
from written import deed_of, is_row, spoilt_at, spoilt_words, train_of

FIRST_TRAIN = (1, 1, 1, ((1, 1),), 0, 0)
TRAIN_ROW = "train 2 3 5 1 2 1/2,1/2"
# No first loads, as a desk's trains have none.
PLAIN = [(book[0], (), book[2]) for book in BOOKS if not book[1]] + [(TRAIN, (), ())]
DEEDS = (
    "bring 0 0 10", "bring 1 0 5", "pool 1 0", "throw 2 3 1,2,3,4", "swap 2 4 1 9", "sell 0 1 1/3", "trade 4 3 2 2 7",
    "spoil 3 7",
)
ASKING = ("book", "holders", "stock")
NUMBERED = ("load", "has", "origins", "chain", "takes", "cost", "alone")
FORTY = "9" * 40


def desk_of(*rows):
    desk = Desk()
    for row in rows:
        desk.say(row)
    return desk


def mixed_desk():
    return desk_of(TRAIN_ROW, *DEEDS)


def train_row(train):
    partners, kinds, beasts, holders, hire, part = train
    shares = ",".join(f"{top}/{bottom}" for top, bottom in holders)
    return f"train {partners} {kinds} {beasts} {hire} {part} {shares}"


def desk_book(book):
    """A desk that was told the book row by row; it has no first loads."""
    return desk_of(train_row(book[0]), *[deed_text(deed) for deed in book[2]])


def words(things):
    return " ".join(things) or "none"


def amounts(told):
    return [f"{top}/{bottom}" for top, bottom in told]


def load_words(book, load):
    loads = loads_by(book, len(book[2]))
    if load >= len(loads):
        raise NoLoad("beyond")
    kind, pieces, owners = loads[load]
    return f"{kind} {pieces} {','.join(amounts(owners))}"


ANSWERS = {
    "load": load_words,
    "has": lambda book, partner: words(amounts(theirs_by(book, len(book[2]), partner))),
    "origins": lambda book, load: words(f"{root}:{top}/{bottom}" for root, (top, bottom) in origins_of(book, load)),
    "chain": lambda book, load: words(map(str, first_chain(book, load))),
    "takes": lambda book, partner: words(f"{load}:{pieces}" for load, pieces in takes_of(book, partner)),
    "cost": lambda book, place: amounts([cost_of(book, place)])[0],
    "alone": lambda book, partner: words(amounts(alone_of(book, partner))),
}


class Model:
    """A desk once more, over a Leader, by the patterns of the document."""

    def __init__(self):
        self.leader = Leader(FIRST_TRAIN, ())

    def say(self, row):
        if not isinstance(row, str) or not is_row(row):
            raise NoRow("by the patterns")
        word, *rest = row.split(" ")
        book = self.leader.book()
        if word == "train":
            self.leader = Leader(train_of(row), ())
            return "ok"
        if word in ANSWERS:
            return ANSWERS[word](book, int(rest[0]))
        if word == "book":
            return book_text(book).replace("\n", " ; ")
        if word == "holders":
            return ",".join(amounts(holders_by(book, len(book[2]))))
        if word == "stock":
            return words(map(str, stock_by(book, len(book[2]))))
        if word in ("undo", "start"):
            self.leader.undo() if word == "undo" else self.leader.start()
            return "ok"
        made = self.leader.do(deed_of(row))
        return "ok" if made is None else str(made)


def outcome(desk, row):
    """The answer, or the class of the refusal and the place that it tells."""
    try:
        return desk.say(row)
    except TrailError as error:
        return type(error), error.at if isinstance(error, NotDone) else None


class Saying(unittest.TestCase):
    def refused(self, error, desk, row):
        ahead = desk.say("book")
        with self.assertRaises(error, msg=row) as taken:
            desk.say(row)
        self.assertIs(type(taken.exception), error, row)
        self.assertEqual(desk.say("book"), ahead)
        return taken.exception


class Answers(Saying):
    def test_at_first(self):
        desk = Desk()
        self.assertEqual(desk.say("book"), "train 1 1 1 0 0 1/1")
        self.assertEqual([desk.say(row) for row in ("holders", "stock", "has 0", "alone 0", "takes 0")],
                         ["1/1", "0", "0/1", "0/1", "none"])
        self.refused(NothingDone, desk, "undo")
        self.refused(NoNext, desk, "start")

    def test_by_hand(self):
        desk = Desk()
        told = [desk.say(row) for row in (TRAIN_ROW,) + DEEDS]
        self.assertEqual(told, ["ok", "0", "1", "2", "ok", "3", "ok", "4", "ok"])
        cases = {
            "load 0": "0 0 68/105,37/105", "load 3": "1 0 4/9,5/9", "load 4": "2 7 4/9,5/9", "holders": "12/35,23/35",
            "has 0": "32/9 0/1 28/9", "stock": "8 0 7", "origins 4": "0:2/3 1:1/3", "origins 1": "1:1/1",
            "chain 4": "0 2 3 4", "chain 1": "1", "takes 0": "2:3 4:3", "takes 1": "2:4 4:3", "cost 3": "3/35",
            "alone 0": "16/3 0/1 14/3", "book": " ; ".join((TRAIN_ROW,) + DEEDS),
        }
        for row, answer in cases.items():
            self.assertEqual(desk.say(row), answer, row)

    def test_books_row_by_row(self):
        for book in PLAIN:
            desk = desk_book(book)
            self.assertEqual(desk.say("book"), book_text(book).replace("\n", " ; "))
            self.assertEqual(desk.say("holders"), ",".join(amounts(holders_by(book, len(book[2])))))
            for word in NUMBERED:
                for number in range(25):
                    model = Model()
                    model.leader = Leader(book[0], ())
                    for deed in book[2]:
                        model.leader.do(deed)
                    row = f"{word} {number}"
                    self.assertEqual(outcome(desk, row), outcome(model, row), (book, row))

    def test_each_answer_is_a_text(self):
        desk = Desk()
        for row in (TRAIN_ROW,) + DEEDS + ASKING + ("takes 0", "load 0", "undo", "start", "takes 0", "takes 1"):
            self.assertIs(type(desk.say(row)), str)

    def test_none_stands_for_nothing_between(self):
        desk = desk_of("train 2 1 1 0 0 1/2,1/2", "bring 1 0 3")
        self.assertEqual([desk.say("takes 0"), desk.say("takes 1")], ["none", "0:3"])

    def test_great_numbers(self):
        desk = desk_of("train 1 2 1 0 0 1/1")
        self.assertEqual(desk.say(f"bring 0 0 {FORTY}"), "0")
        self.assertEqual(desk.say(f"bring 0 0 {FORTY}"), "1")
        self.assertEqual(desk.say("pool 0 1"), "2")
        self.assertEqual(desk.say("stock"), f"1{'9' * 39}8 0")
        self.assertEqual(desk.say("load 2"), f"0 1{'9' * 39}8 1/1")
        self.assertEqual(desk.say("takes 0"), f"2:1{'9' * 39}8")

    def test_starts(self):
        desk = mixed_desk()
        ahead = desk.say("book")
        self.assertEqual(desk.say("start"), "ok")
        self.assertIn(" ; first ", desk.say("book"))
        self.assertTrue(desk.say("book").startswith("train 2 3 5 1 2 12/35,23/35 ; first 0 "))
        self.assertEqual(desk.say("undo"), "ok")
        self.assertEqual(desk.say("book"), ahead)
        for _ in DEEDS:
            self.assertEqual(desk.say("undo"), "ok")
        self.assertEqual(desk.say("book"), TRAIN_ROW)
        self.refused(NothingDone, desk, "undo")

    def test_a_train_begins_anew(self):
        desk = mixed_desk()
        self.assertEqual(desk.say("train 1 2 3 4 5 1/1"), "ok")
        self.assertEqual(desk.say("book"), "train 1 2 3 4 5 1/1")
        self.refused(NothingDone, desk, "undo")


class Refusals(Saying):
    def test_no_trains(self):
        desk = mixed_desk()
        for row in (
            "train 0 3 5 1 2 1/2,1/2", "train 5 3 5 1 2 1/2,1/2", "train 2 0 5 1 2 1/2,1/2", "train 2 6 5 1 2 1/2,1/2",
            "train 2 3 0 1 2 1/2,1/2", "train 2 3 21 1 2 1/2,1/2", "train 2 3 5 10 2 1/2,1/2", "train 2 3 5 1 10 1/2,1/2",
            "train 2 3 5 1 2 1/2,1/3", "train 2 3 5 1 2 1/1", "train 2 3 5 1 2 1/2,1/2,0/1", "train 2 3 5 1 2 3/2,1/2",
            "train 1 3 5 1 2 1/2,1/2", f"train {FORTY} 3 5 1 2 1/2,1/2", f"train 2 3 5 1 2 1/2,1/{FORTY}",
            "train 1 3 5 1 2 0/1",
        ):
            self.refused(NoTrain, desk, row)
        # Its Leader is as it was, with all that can be undone.
        for _ in DEEDS:
            desk.say("undo")
        self.refused(NothingDone, desk, "undo")

    def test_deeds_that_the_train_does_not_let(self):
        desk = mixed_desk()
        for row in (
            "bring 2 0 1", "bring 0 3 1", "bring 0 0 0", "pool 4 4", "swap 2 0 1 1", "swap 2 1 3 1", "swap 2 1 1 0",
            "trade 10 2 1 1 1", "trade 1 2 0 1 1", "spoil 2 0", "throw 2 1 1,1,1", "throw 2 1 1,1,1,1,1", "throw 2 1 1",
            "throw 2 1 1,1,0,1", "throw 2 1 1,1,100,1", "throw 2 0 1,1,1,1", "sell 0 0 1/2", "sell 0 2 1/2",
            "sell 0 1 0/1", "sell 0 1 3/2", "sell 0 1 1/13", f"bring {FORTY} 0 1", f"sell 0 1 1/{FORTY}",
        ):
            self.refused(NoDeed, desk, row)

    def test_deeds_that_can_not_be_done(self):
        desk = mixed_desk()
        for row in ("pool 0 2", "swap 2 9 1 1", "swap 2 1 0 1", "trade 4 2 1 1 1", "spoil 5 1", "throw 0 1 1,1,1,1",
                    f"spoil {FORTY} 1", f"spoil 2 {FORTY}"):
            self.assertEqual(self.refused(NotDone, desk, row).at, 8)

    def test_too_many(self):
        desk = desk_of(TRAIN_ROW, *["bring 0 0 1"] * 20)
        self.refused(TooMany, desk, "bring 0 0 1")
        self.assertEqual(self.refused(NotDone, desk, "spoil 20 1").at, 20)
        self.refused(NoDeed, desk, "bring 0 3 1")
        self.refused(NoRow, desk, "bring 0 03 1")
        desk = desk_of(TRAIN_ROW, "bring 0 0 9", *["throw 0 1 1,1,1,1"] * 3)
        self.refused(TooMany, desk, "throw 0 1 1,1,1,1")
        desk = desk_of("train 2 1 1 5 0 1/2,1/2", *["bring 0 0 1"] * 5)
        self.refused(TooMany, desk, "start")

    def test_loads_partners_and_places_that_are_none(self):
        desk = mixed_desk()
        for word, error, right in (
            ("load", NoLoad, range(5)), ("origins", NoLoad, range(5)), ("chain", NoLoad, range(5)),
            ("has", NoPartner, range(2)), ("takes", NoPartner, range(2)), ("alone", NoPartner, range(2)),
            ("cost", NoThrow, (3,)),
        ):
            for number in list(range(10)) + [10 ** 39, int(FORTY)]:
                if number in right:
                    desk.say(f"{word} {number}")
                else:
                    self.refused(error, desk, f"{word} {number}")
            self.refused(NoRow, desk, f"{word} {10 ** 40}")
        for word in ("load", "origins", "chain"):
            self.refused(NoLoad, Desk(), f"{word} 0")

    def test_whatever(self):
        things = WHATEVER + NO_NUMBERS + [MIXED, ("bring", 0, 0, 1), ["book"], ("book",), {"book": 1}, [TRAIN_ROW], TRAIN]
        kept = copy.deepcopy(things)
        for desk in (Desk(), mixed_desk()):
            for thing in things:
                self.refused(NoRow, desk, thing)
        self.assertEqual(things, kept)

    def test_rows_that_are_none(self):
        for desk in (Desk(), mixed_desk()):
            for row in (
                "", " ", "book ", " book", "book\n", "Book", "books", "book 0", "holders 0", "stock 0", "undo 1", "start 0",
                "undo undo", "load", "load ", "load  0", "load 0 ", "load 0 0", "load -1", "load +0", "load 00", "load x",
                "load 0/1", "has", "takes", "cost", "alone", "chain", "origins", "train", "bring", "bring 0 0",
                "bring 0 0 1 1", "bring 0 0 01", "bring  0 0 1", "bring\t0\t0\t1", "bring 0 0 -1", "bring 0 0 1/1",
                "first 0 10 1/1", "sell 0 1 2/4", "sell 0 1 1/0", "sell 0 1 1", "sell 0 1 -1/2", "sell 0 1 01/2",
                "sell 0 1 1/2,1/2", "throw 0 1 1,1,", "throw 0 1 ,1", "throw 0 1 1,,1", "throw 0 1", "throw 0 1 1 1",
                "throw 0 1 1, 1", "throw 0 1 1/1,1", "train 2 3 5 1 2", "train 2 3 5 1 2 1/2,2/4", "train 2 3 5 1 2 1/2,",
                "train 2 3 5 1 2 1/2 1/2", "train 2 3 5 1 1/2,1/2 2", "train 2 3 5 1 2 1", "train 02 3 5 1 2 1/2,1/2",
                "none", "ok", "book ; book", "book;", TRAIN_ROW + " ; bring 0 0 1", TRAIN_ROW + "\nbring 0 0 1",
                f"bring 0 0 {FORTY}9", f"load {FORTY}9", f"sell 0 1 1/{FORTY}9", f"throw 0 1 1,{FORTY}9,1,1",
                f"train 2 3 5 1 2 1/2,1/{FORTY}9", f"train {FORTY}9 3 5 1 2 1/2,1/2", "load \u0661", "load \u00b2",
            ):
                self.refused(NoRow, desk, row)


RIGHT_ROWS = (TRAIN_ROW, "undo", "start") + DEEDS + ASKING + tuple(f"{word} 3" for word in NUMBERED)
RIGHT_ROWS += ("has 1", f"bring 0 0 {FORTY}", f"sell 0 1 1/{FORTY}", f"throw 2 1 1,2,3,{FORTY}", f"load {FORTY}")


class ByThePatterns(unittest.TestCase):
    """Each row with a sign or a word put in, left out or exchanged, held against a second desk."""

    def same(self, rows, begin):
        seen = set()
        for row in rows:
            desk, model = Desk(), Model()
            for other in begin:
                desk.say(other)
            model.leader = desk.leader.twin()
            told = outcome(desk, row)
            self.assertEqual(told, outcome(model, row), row)
            self.assertEqual(desk.say("book"), model.say("book"), row)
            seen.add(told[0] if isinstance(told, tuple) else str)
        return seen

    def test_signs(self):
        rows = [other for row in RIGHT_ROWS for at in range(min(len(row), 30) + 1) for other in spoilt_at(row, at)]
        seen = self.same(RIGHT_ROWS + tuple(rows), (TRAIN_ROW,) + DEEDS)
        self.assertLessEqual({str, NoRow, NoTrain, NoDeed, NotDone, NoLoad, NoPartner, NoThrow}, seen)

    def test_words(self):
        rows = [other for row in RIGHT_ROWS for other in spoilt_words(row, " ")]
        rows += [other for row in RIGHT_ROWS for other in spoilt_words(row, ",") + spoilt_words(row, "/")]
        seen = self.same(rows, (TRAIN_ROW,) + DEEDS)
        self.assertLessEqual({str, NoRow, NoTrain, NoDeed, NotDone, NoLoad, NoPartner, NoThrow}, seen)


class ByTurns(unittest.TestCase):
    def test_desks_by_turns(self):
        chance = random.Random(9)
        deeds = [deed_text(deed) for book in [MIXED] + other_books(MIXED) for deed in book[2]] + list(DEEDS) * 4
        others = [f"{word} {number}" for word in NUMBERED for number in range(5)] + list(ASKING) * 3
        turns = ["undo"] * 8 + ["start"] * 3 + [TRAIN_ROW, "train 3 2 4 5 6 1/2,1/3,1/6", "train 2 3 5 1 2 1/2,1/3"]
        wrong = ["undo ", "bring 0 0 01", "", None, 7, ["book"], "start 1"]
        seen = set()
        for _ in range(8):
            pairs = [(Desk(), Model()) for _ in range(3)]
            for desk, model in pairs:
                self.assertEqual(desk.say(TRAIN_ROW), model.say(TRAIN_ROW))
            for _ in range(300):
                desk, model = chance.choice(pairs)
                row = chance.choice(chance.choice([deeds, deeds, deeds, others, others, turns, wrong]))
                told = outcome(desk, row)
                self.assertEqual(told, outcome(model, row), row)
                seen.add(told[0] if isinstance(told, tuple) else str)
                for one, other in pairs:
                    self.assertEqual(one.say("book"), other.say("book"))
        self.assertLessEqual({str, NoRow, NoDeed, NotDone, NothingDone, NoNext, NoTrain}, seen)


if __name__ == "__main__":
    unittest.main()
