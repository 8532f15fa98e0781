"""[2], [5], [7], [81]: the trades of a book, and where two books clash."""

import copy
import unittest

from sharetrail.books import first_wrong, is_book
from sharetrail.clashes import clash_holds, first_clash, trades_of
from sharetrail.errors import NotDone
from things import BOOKS, HALVES, MIXED, NO_NUMBERS, TRAIN, UNDONE, WHATEVER, other_books, with_part

GREAT = 10 ** 39 + 3
FIRST = ((0, 100, HALVES), (1, 100, HALVES), (2, GREAT, HALVES))
# Of each kind a load, so that whatever trade can be done.
WIDE = (2, 5, 5, HALVES, 1, 2)


def book_of(*deeds):
    return (TRAIN, FIRST, deeds)


def trades_one_by_one(book):
    """The trades, the kinds told by going through the loads as they are made."""
    kinds = [load[0] for load in book[1]]
    trades = {}
    for deed in book[2]:
        if deed[0] == "trade":
            trades[deed[1]] = (deed[1], kinds[deed[2]]) + deed[3:4] + deed[4:]
        made = {"bring": lambda: deed[2], "pool": lambda: kinds[deed[1]], "swap": lambda: deed[3]}
        made["trade"] = lambda: deed[4]
        kinds += [made[deed[0]]()] if deed[0] in made else []
    return [trades[number] for number in sorted(trades)]


def book_with(trades):
    """A book that has these trades, done in this order."""
    deeds = []
    for at, (number, kind, given, other, got) in enumerate(trades):
        deeds += [("bring", 0, kind, given), ("trade", number, 2 * at, given, other, got)]
    book = (WIDE, (), tuple(deeds))
    assert is_book(book) and first_wrong(book) is None, book
    return book


def turned(trade):
    number, kind, given, other, got = trade
    return (number, other, got, kind, given)


def partner_of(book):
    """A book that trades just what the book trades, the other way about, in another order."""
    return book_with([turned(trade) for trade in trades_of(book)][::-1])


ALL_BOOKS = BOOKS + [MIXED] + other_books(MIXED)
SIX = [
    (0, 0, 5, 1, 6), (2, 0, 5, 1, 5), (3, 4, 1, 3, 2), (5, 2, GREAT, 0, 1), (8, 1, 1, 0, 1), (9, 1, 7, 2, 10 ** 40 - 1),
]
MINE = book_with(SIX)
THEIRS = partner_of(MINE)


def otherwise(trade):
    """The trade with one thing otherwise, but its number."""
    number, kind, given, other, got = trade
    kinds = [number for number in range(5) if number not in (kind, other)]
    return [
        (number, kinds[0], given, other, got), (number, kind, given + 1, other, got),
        (number, kind, given, kinds[0], got), (number, kind, given, other, got + 1),
    ]


class Trades(unittest.TestCase):
    def test_each_book(self):
        many = set()
        for book in ALL_BOOKS:
            told = trades_of(book)
            self.assertEqual(told, trades_one_by_one(book), book)
            self.assertEqual([type(told)] + [type(trade) for trade in told], [list] + [tuple] * len(told))
            many.add(len(told))
        self.assertLessEqual({0, 1, 2, 3}, many)

    def test_rising_whatever_order_they_were_done_in(self):
        for trades in (SIX, SIX[::-1], SIX[3:] + SIX[:3], SIX[1::2] + SIX[::2]):
            self.assertEqual(trades_of(book_with(trades)), SIX)

    def test_by_hand(self):
        book = book_of(("trade", 7, 1, 3, 2, 8), ("swap", 0, 1, 1, 1), ("trade", 0, 3, 8, 0, 4), ("trade", 3, 2, 1, 1, 9))
        self.assertEqual(trades_of(book), [(0, 2, 8, 0, 4), (3, 2, 1, 1, 9), (7, 1, 3, 2, 8)])
        self.assertEqual(trades_of(MIXED), [(7, 2, 9, 0, 2)])
        self.assertEqual(trades_of((TRAIN, (), ())), [])


class Clashes(unittest.TestCase):
    def clash(self, book, other, clash):
        """The first clash, and the other way about."""
        self.assertEqual(first_clash(book, other), clash)
        back = None if clash is None else (clash[0], clash[2], clash[1])
        self.assertEqual(first_clash(other, book), back)

    def test_just_what_the_other_trades(self):
        for book in ALL_BOOKS + [MINE]:
            self.clash(book, partner_of(book), None)
        self.clash((TRAIN, (), ()), MIXED[:2] + ((),), None)

    def test_the_very_same_trades_clash(self):
        self.clash(MINE, MINE, (0, SIX[0], SIX[0]))
        # As many pieces are given as got, but of unlike kinds.
        self.clash(book_with([SIX[1]]), book_with([SIX[1]]), (2, SIX[1], SIX[1]))

    def test_one_left_out_of_either(self):
        for at, trade in enumerate(SIX):
            less = SIX[:at] + SIX[at + 1:]
            self.clash(book_with(less), THEIRS, (trade[0], None, turned(trade)))
            self.clash(MINE, partner_of(book_with(less)), (trade[0], trade, None))

    def test_one_made_otherwise(self):
        for at, trade in enumerate(SIX):
            for other in otherwise(trade):
                self.clash(book_with(with_part(tuple(SIX), at, other)), THEIRS, (trade[0], other, turned(trade)))

    def test_another_number(self):
        moved = [(1,) + SIX[3][1:]]
        self.clash(book_with(SIX[:3] + moved + SIX[4:]), THEIRS, (1, moved[0], None))
        moved = [(7,) + SIX[3][1:]]
        self.clash(book_with(SIX[:3] + moved + SIX[4:]), THEIRS, (5, None, turned(SIX[3])))

    def test_given_and_got_of_one_kind_each(self):
        # The pieces go right, the kinds don't; and the kinds do, the pieces don't.
        self.clash(book_with([(4, 0, 5, 1, 6)]), book_with([(4, 0, 6, 1, 5)]), (4, (4, 0, 5, 1, 6), (4, 0, 6, 1, 5)))
        self.clash(book_with([(4, 0, 5, 1, 6)]), book_with([(4, 1, 5, 0, 6)]), (4, (4, 0, 5, 1, 6), (4, 1, 5, 0, 6)))

    def test_of_several_the_least_number(self):
        for order in (SIX, SIX[::-1]):
            changed = [otherwise(trade)[1] if trade[0] in (3, 8) else trade for trade in order if trade[0] != 5]
            self.clash(book_with(changed), THEIRS, (3, otherwise(SIX[2])[1], turned(SIX[2])))

    def test_against_nothing(self):
        self.clash(MINE, (WIDE, (), ()), (0, SIX[0], None))

    def test_kinds(self):
        told = first_clash(MINE, MINE)
        self.assertEqual([type(told)] + [type(part) for part in told], [tuple, int, tuple, tuple])


# Clashes at 0 (none of theirs), 2 (otherwise), 5 (none of mine).
HOLED = book_with([SIX[0], otherwise(SIX[1])[2]] + [SIX[2]] + SIX[4:])
ANSWER = book_with([turned(trade) for trade in SIX[1:]])
CLASHES = [(0, SIX[0], None), (2, otherwise(SIX[1])[2], turned(SIX[1])), (5, None, turned(SIX[3]))]


class Holds(unittest.TestCase):
    def wrong(self, thing, book=HOLED, other=ANSWER):
        self.assertIs(clash_holds(book, other, thing), False, thing)

    def test_each_clash_at_whichever_number(self):
        for number, mine, theirs in CLASHES:
            self.assertIs(clash_holds(HOLED, ANSWER, (number, mine, theirs)), True)
            self.assertIs(clash_holds(ANSWER, HOLED, (number, theirs, mine)), True)
            self.wrong((number, theirs, mine))
        for book in ALL_BOOKS:
            for other in ALL_BOOKS[:20]:
                clash = first_clash(book, other)
                self.assertIs(clash_holds(book, other, clash), clash is not None)

    def test_numbers_at_which_they_do_not_clash(self):
        mine = {trade[0]: trade for trade in trades_of(HOLED)}
        theirs = {trade[0]: trade for trade in trades_of(ANSWER)}
        for number in set(range(-1, 12)) - {0, 2, 5}:
            self.wrong((number, mine.get(number), theirs.get(number)))
            for clash in CLASHES:
                self.wrong((number,) + clash[1:])

    def test_nothing_holds_where_they_do_not_clash(self):
        for thing in WHATEVER + CLASHES + [(trade[0], trade, turned(trade)) for trade in SIX]:
            self.wrong(thing, MINE, THEIRS)

    def test_one_place_otherwise(self):
        others = [None, 0, 1, 2, 5, 6, 7, -1, True, False, "0", "", GREAT, (), [], {}, (0,), SIX[0], SIX[1], turned(SIX[1])]
        for clash in CLASHES:
            for at in range(3):
                for other in others:
                    if other != clash[at] or isinstance(other, bool):
                        self.wrong(with_part(clash, at, other))
                for place in range(5) if isinstance(clash[at], tuple) else []:
                    for other in others:
                        if other != clash[at][place] or isinstance(other, bool):
                            self.wrong(with_part(clash, at, with_part(clash[at], place, other)))

    def test_lists_in_the_stead_of_tuples(self):
        for clash in CLASHES:
            self.wrong(list(clash))
            self.wrong([clash])
            self.wrong((clash,))
            for at in (1, 2):
                if clash[at] is not None:
                    self.wrong(with_part(clash, at, list(clash[at])))

    def test_longer_and_shorter(self):
        for clash in CLASHES:
            for thing in (clash + (None,), clash[:2], clash[1:], clash[:1], (None,) + clash, clash + clash):
                self.wrong(thing)
            for at in (1, 2):
                if clash[at] is not None:
                    for trade in (clash[at][1:], clash[at][:4], clash[at] + (0,), (clash[at],)):
                        self.wrong(with_part(clash, at, trade))

    def test_truths_in_the_stead_of_numbers(self):
        book, other = book_with([(1, 0, 1, 1, 1)]), book_with([(0, 1, 1, 0, 1)])
        right = [(0, None, (0, 1, 1, 0, 1)), (1, (1, 0, 1, 1, 1), None)]
        for clash in right:
            self.assertIs(clash_holds(book, other, clash), True)
            self.wrong(with_part(clash, 0, bool(clash[0])), book, other)
            for at in (1, 2):
                for place in range(5) if clash[at] is not None else []:
                    thing = with_part(clash, at, with_part(clash[at], place, bool(clash[at][place])))
                    self.assertEqual(thing, clash)
                    self.wrong(thing, book, other)

    def test_whatever(self):
        things = copy.deepcopy(WHATEVER)
        for thing in WHATEVER + NO_NUMBERS:
            self.wrong(thing)
            for clash in CLASHES:
                for at in range(3):
                    if isinstance(thing, bool) or thing != clash[at]:
                        self.wrong(with_part(clash, at, thing))
        self.assertEqual(WHATEVER, things)


class TwoBooks(unittest.TestCase):
    """[6]: of two books the first one's NotDone ahead."""

    def not_done(self, at, asked, *things):
        with self.assertRaises(NotDone) as taken:
            asked(*things)
        self.assertIs(type(taken.exception), NotDone)
        self.assertEqual(taken.exception.at, at)

    def test_a_wrong_deed_in_either_and_in_both(self):
        later = MIXED[:2] + (MIXED[2] + (("spoil", 0, 1),),)
        for thing in [None, CLASHES[0]] + WHATEVER:
            self.not_done(4, clash_holds, UNDONE, MIXED, thing)
            self.not_done(4, clash_holds, MIXED, UNDONE, thing)
            self.not_done(4, clash_holds, UNDONE, later, thing)
            self.not_done(13, clash_holds, later, UNDONE, thing)
        self.not_done(4, first_clash, UNDONE, MIXED)
        self.not_done(4, first_clash, MIXED, UNDONE)
        self.not_done(4, first_clash, UNDONE, later)
        self.not_done(13, first_clash, later, UNDONE)


class Kept(unittest.TestCase):
    def test_a_told_list_that_is_changed(self):
        for book in ALL_BOOKS + [MINE]:
            told = trades_of(book)
            kept = list(told)
            told.reverse()
            told.append(None)
            self.assertEqual(trades_of(book), kept)
            self.assertIsNone(first_clash(book, partner_of(book)))

    def test_books_by_turns(self):
        books = [MINE, THEIRS, HOLED, ANSWER, MIXED]
        alone = [[(trades_of(book), first_clash(book, other)) for other in books] for book in books]
        for at in (0, 1, 0, 2, 3, 2, 4, 0, 4):
            told = [(trades_of(books[at]), first_clash(books[at], other)) for other in books]
            self.assertEqual(told, alone[at])


if __name__ == "__main__":
    unittest.main()
