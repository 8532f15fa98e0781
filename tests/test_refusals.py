"""[6]: what is refused, with which class, and what is looked at first."""

import copy
import itertools
import unittest

from sharetrail.alone import alone_of, by_others
from sharetrail.books import first_wrong, is_book, made_by
from sharetrail.chains import come_home, first_chain, is_chain, made_of, many_chains, origins_of, reached
from sharetrail.clashes import clash_holds, first_clash, trades_of
from sharetrail.errors import NoLoad, NoNumber, NoOrder, NoPartner, NoPrices, NoSale, NotDone, NoThrow
from sharetrail.home import account_of, due_of, next_book, settled, stays_over, takes_of
from sharetrail.loads import holders_by, loads_by, theirs_by
from sharetrail.sales import turned_by, unsold
from sharetrail.stops import flows_by, sheet_holds, stock_by
from sharetrail.texts import book_text
from sharetrail.throws import bearing, bearing_holds, cost_of
from things import MIXED, NO_NUMBERS, TRAIN, UNDONE, WHATEVER

# What each is asked behind its book.
ASKED = {
    made_by: ("place",),
    loads_by: ("many",),
    holders_by: ("many",),
    theirs_by: ("many", "partner"),
    stock_by: ("many",),
    flows_by: ("many",),
    sheet_holds: ("thing",),
    made_of: ("load",),
    origins_of: ("load",),
    is_chain: ("load", "thing"),
    first_chain: ("load",),
    many_chains: ("load",),
    reached: ("load",),
    come_home: (),
    cost_of: ("throw",),
    bearing: ("throw",),
    bearing_holds: ("throw", "thing"),
    unsold: ("sale",),
    turned_by: ("sale",),
    due_of: ("partner", "load"),
    account_of: ("partner", "prices", "prices"),
    settled: ("order",),
    takes_of: ("partner",),
    stays_over: (),
    next_book: (),
    trades_of: (),
    first_clash: ("book",),
    clash_holds: ("book", "thing"),
    alone_of: ("partner",),
    by_others: ("partner",),
    book_text: (),
}
CLASSES = {
    "place": NoNumber, "many": NoNumber, "partner": NoPartner, "load": NoLoad, "throw": NoThrow, "sale": NoSale,
    "prices": NoPrices, "order": NoOrder,
}
# Of the book MIXED: right ones, and those that are just beyond.
RIGHT = {
    "place": (0, 1, 12), "many": (0, 1, 13), "partner": (0, 1), "load": (0, 9), "throw": (4, 8, 12), "sale": (2, 10),
    "thing": (None, (0,)), "prices": ((1, 2, 3), (99, 1, 99)), "order": ((), (0,), (1,), (0, 1), (1, 0)),
    "book": (MIXED,),
}
BEYOND = {
    "place": (13, 14), "many": (14, 15), "partner": (2, 3), "load": (10, 11), "throw": (0, 5, 13, 14),
    "sale": (0, 4, 13, 14), "prices": ((1, 2), (1, 2, 3, 4), (0, 1, 2), (1, 2, 100), [1, 2, 3]),
    "order": ((2,), (0, 0), (0, True), [0, 1]),
}
NOWHERE = NO_NUMBERS + ["a" * 4000, 10 ** 39, 10 ** 40 - 1, 10 ** 40, (0,), [0], {0: 0}, None, "0"]


def wrong_of(part):
    """What is refused where this part is asked."""
    return list(BEYOND[part]) + [thing for thing in NOWHERE + WHATEVER if not is_right(part, thing)]


def is_right(part, thing):
    bounds = {"place": range(13), "many": range(14), "partner": range(2), "load": range(10)}
    return not isinstance(thing, bool) and thing in bounds.get(part, RIGHT[part])


def with_things(parts, chosen):
    """What is handed in: what was chosen, and right things else."""
    return [chosen.get(at, RIGHT[part][0]) for at, part in enumerate(parts)]


class Refusals(unittest.TestCase):
    def refused(self, error, asked, book, things):
        with self.assertRaises(error) as taken:
            asked(book, *things)
        self.assertIs(type(taken.exception), error)
        return taken.exception

    def test_right_ones_are_not_refused(self):
        for asked, parts in ASKED.items():
            for at, part in enumerate(parts):
                for thing in RIGHT[part]:
                    asked(MIXED, *with_things(parts, {at: thing}))

    def test_each_wrong_thing(self):
        for asked, parts in ASKED.items():
            for at, part in enumerate(parts):
                for thing in wrong_of(part) if part in CLASSES else []:
                    self.refused(CLASSES[part], asked, MIXED, with_things(parts, {at: thing}))

    def test_the_left_one_first(self):
        pairs = 0
        for asked, parts in ASKED.items():
            for left, right in itertools.combinations([at for at, part in enumerate(parts) if part in CLASSES], 2):
                pairs += 1
                for thing in wrong_of(parts[left]):
                    for other in list(BEYOND[parts[right]]) + NO_NUMBERS:
                        if not is_right(parts[right], other):
                            things = with_things(parts, {left: thing, right: other})
                            self.refused(CLASSES[parts[left]], asked, MIXED, things)
        self.assertGreaterEqual(pairs, 5)

    def test_all_wrong(self):
        for asked, parts in ASKED.items():
            if parts and parts[0] in CLASSES:
                self.refused(CLASSES[parts[0]], asked, MIXED, [None] * len(parts))

    def test_a_thing_of_whatever_kind_does_not_hide_what_stands_ahead(self):
        for thing in WHATEVER:
            self.refused(NoLoad, is_chain, MIXED, (10, thing))
            self.refused(NoThrow, bearing_holds, MIXED, (5, thing))

    def test_no_root(self):
        for load in (4, 5, 6, 7, 8):
            self.refused(NoLoad, reached, MIXED, (load,))

    def test_a_book_without_loads(self):
        for asked in (made_of, origins_of, first_chain, many_chains, reached):
            for load in (0, 1, -1, None):
                self.refused(NoLoad, asked, (TRAIN, (), ()), (load,))

    def test_a_book_without_deeds(self):
        empty = (TRAIN, (), ())
        self.assertEqual(loads_by(empty, 0), [])
        for asked in (loads_by, holders_by, stock_by, flows_by):
            for many in (1, -1, True, False):
                self.refused(NoNumber, asked, empty, (many,))

    def test_a_load_that_a_later_deed_makes_is_one(self):
        book = (TRAIN, (), (("sell", 0, 1, (1, 2)), ("bring", 0, 0, 1)))
        self.assertEqual(made_of(book, 0), [])
        self.refused(NoLoad, made_of, book, (1,))


class NotDoneAheadOfAll(unittest.TestCase):
    def not_done(self, at, asked, book, things):
        with self.assertRaises(NotDone) as taken:
            asked(book, *things)
        self.assertIs(type(taken.exception), NotDone)
        self.assertEqual(taken.exception.at, at)

    def test_ahead_of_right_and_wrong_things(self):
        for asked, parts in ASKED.items():
            for at, part in enumerate(parts):
                things = list(RIGHT[part]) + (wrong_of(part) if part in CLASSES else WHATEVER)
                for thing in things:
                    self.not_done(4, asked, UNDONE, with_things(parts, {at: thing}))
            self.not_done(4, asked, UNDONE, [None] * len(parts))

    def test_ahead_of_too_many(self):
        over = (TRAIN, (), tuple(("bring", 0, 0, 1) for _ in range(5)) + (("spoil", 9, 1),))
        self.not_done(5, next_book, over, ())

    def test_of_nothing_else(self):
        for asked in (come_home, stays_over, next_book, trades_of, book_text):
            self.not_done(4, asked, UNDONE, ())

    def test_but_by_first_wrong_and_is_book(self):
        self.assertIs(is_book(UNDONE), True)
        self.assertEqual(first_wrong(UNDONE), 4)

    def test_also_where_the_wrong_deed_stands_behind(self):
        # The deeds that are asked for could be done.
        for many in range(5):
            for asked in (loads_by, holders_by, stock_by, flows_by):
                self.not_done(4, asked, UNDONE, (many,))

    def test_each_place(self):
        for at in range(len(MIXED[2]) + 1):
            book = MIXED[:2] + (MIXED[2][:at] + (("spoil", 99, 1),) + MIXED[2][at:],)
            for asked, parts in ASKED.items():
                self.not_done(at, asked, book, with_things(parts, {}))


class Kept(unittest.TestCase):
    """[5], [6]: nothing that is handed in is changed, and a refusal changes nothing."""

    def test_things_of_whatever_kind(self):
        things = copy.deepcopy(WHATEVER)
        for asked, parts in ASKED.items():
            for thing in WHATEVER if "thing" in parts else []:
                told = [asked(MIXED, *with_things(parts, {len(parts) - 1: thing})) for _ in range(2)]
                self.assertEqual(told[0], told[1])
        self.assertEqual(WHATEVER, things)

    def test_things_and_answers(self):
        things = copy.deepcopy(WHATEVER)
        right = [(asked, with_things(parts, {})) for asked, parts in ASKED.items()]
        told = [asked(MIXED, *handed) for asked, handed in right]
        for asked, parts in ASKED.items():
            for thing in WHATEVER:
                if parts and parts[0] in CLASSES and not is_right(parts[0], thing):
                    with self.assertRaises(CLASSES[parts[0]]):
                        asked(MIXED, *with_things(parts, {0: thing}))
        self.assertEqual(WHATEVER, things)
        self.assertEqual([asked(MIXED, *handed) for asked, handed in right], told)


def changed(told):
    """How many lists are in what was told; each is emptied, and has something else put in."""
    many = 0
    if isinstance(told, (list, tuple)):
        many += sum([changed(part) for part in told])
    if isinstance(told, list):
        told.clear()
        told.append("other")
        many += 1
    return many


class ToldLists(unittest.TestCase):
    """[5]: what is done to a told list changes nothing else."""

    def test_asked_again_with_the_told_lists_changed(self):
        lists = {}
        for asked, parts in ASKED.items():
            lists[asked] = 0
            for at, part in enumerate(parts or (None,)):
                for thing in RIGHT.get(part, (None,)):
                    things = with_things(parts, {at: thing})
                    told = [asked(MIXED, *things) for _ in range(2)]
                    lists[asked] += changed(told[0])
                    self.assertEqual(asked(MIXED, *things), told[1])
        telling = {asked for asked in lists if lists[asked]}
        self.assertEqual(
            telling, {loads_by, made_of, origins_of, reached, come_home, settled, takes_of, trades_of},
        )


if __name__ == "__main__":
    unittest.main()
