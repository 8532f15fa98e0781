"""[2], [5], [7], [91]: what each partner would have had alone, and what they have more by the others."""

import unittest
from fractions import Fraction

from sharetrail.alone import alone_of, by_others
from sharetrail.amounts import is_amount
from sharetrail.errors import NoPartner, NotDone
from sharetrail.loads import theirs_by
from sharetrail.sales import unsold
from sharetrail.stops import stock_by
from things import BOOKS, HALVES, MIXED, NO_NUMBERS, TRAIN, UNDONE, WHATEVER, WORTHS, amount, fraction, held_behind
from things import other_books

GREAT = 10 ** 35 + 7
FIRST = ((0, 10, ((1, 3), (2, 3))), (0, 5, ((1, 1), (0, 1))), (1, 6, HALVES))
ALL_BOOKS = BOOKS + [MIXED] + other_books(MIXED)


def book_of(*deeds):
    return (TRAIN, FIRST, deeds)


def alone_step_by_step(book, partner):
    """What the partner has of each load, deed by deed, by the words of the document."""
    train, first, deeds = book
    held = [load[:2] for load in first]
    theirs = [pieces * fraction(owners[partner]) for kind, pieces, owners in first]
    for deed in deeds:
        if deed[0] == "bring":
            theirs.append(Fraction(deed[3] if deed[1] == partner else 0))
        elif deed[0] == "pool":
            theirs.append(theirs[deed[1]] + theirs[deed[2]])
            theirs[deed[1]] = theirs[deed[2]] = Fraction(0)
        elif deed[0] in ("swap", "trade"):
            load, given, kind, got = deed[-4:]
            part = theirs[load] / held[load][1]
            theirs.append(got * part)
            theirs[load] -= given * part
        elif deed[0] in ("spoil", "throw"):
            theirs[deed[1]] -= deed[2] * theirs[deed[1]] / held[deed[1]][1]
        held = held_behind(held, deed)
    sums = [Fraction(0)] * train[1]
    for (kind, pieces), one in zip(held, theirs):
        sums[kind] += one
    return sums


class Alone(unittest.TestCase):
    def test_each_partner(self):
        for book in ALL_BOOKS:
            for partner in range(book[0][0]):
                told = alone_of(book, partner)
                self.assertEqual(told, tuple(map(amount, alone_step_by_step(book, partner))), (book, partner))
                self.assertTrue(all(is_amount(one) and one[0] >= 0 for one in told))

    def test_of_each_kind_all_together_have_what_is_there(self):
        for book in ALL_BOOKS:
            each = [alone_of(book, partner) for partner in range(book[0][0])]
            there = [sum(fraction(theirs[kind]) for theirs in each) for kind in range(book[0][1])]
            self.assertEqual(tuple(there), stock_by(book, len(book[2])), book)

    def test_sales_turn_nothing_of_it(self):
        for book in ALL_BOOKS:
            for place in [place for place, deed in enumerate(book[2]) if deed[0] == "sell"]:
                for partner in range(book[0][0]):
                    self.assertEqual(alone_of(book, partner), alone_of(unsold(book, place), partner))

    def test_the_beasts_count_for_nothing(self):
        for holders in (HALVES, ((1, 1), (0, 1)), ((0, 1), (1, 1))):
            book = ((2, 3, 20, holders, 9, 9),) + MIXED[1:]
            self.assertEqual(alone_of(book, 0), alone_of(MIXED, 0))

    def test_first_and_brought(self):
        book = book_of(("bring", 1, 2, 7), ("bring", 0, 1, 4))
        self.assertEqual(alone_of(book, 0), ((25, 3), (7, 1), (0, 1)))
        self.assertEqual(alone_of(book, 1), ((20, 3), (3, 1), (7, 1)))

    def test_a_pool_and_swaps_of_a_part_and_of_all(self):
        pool = ("pool", 0, 1)
        self.assertEqual(alone_of(book_of(pool), 0), ((25, 3), (3, 1), (0, 1)))
        self.assertEqual(alone_of(book_of(pool, ("swap", 3, 15, 2, 9)), 0), ((0, 1), (3, 1), (5, 1)))
        self.assertEqual(alone_of(book_of(pool, ("swap", 3, 6, 2, 9)), 0), ((5, 1), (3, 1), (5, 1)))
        # All the pieces are those that the load has then.
        self.assertEqual(alone_of(book_of(("spoil", 0, 4), ("swap", 0, 3, 2, 9)), 0), ((6, 1), (3, 1), (3, 1)))
        self.assertEqual(alone_of(book_of(("spoil", 0, 4), ("trade", 1, 0, 3, 2, 9)), 1), ((2, 1), (3, 1), (6, 1)))

    def test_nobody_bears_for_another(self):
        throw = ("throw", 2, 2, WORTHS)
        self.assertEqual(alone_of(book_of(throw), 0), ((25, 3), (2, 1), (0, 1)))
        self.assertEqual(alone_of(book_of(throw), 1), ((20, 3), (2, 1), (0, 1)))
        self.assertEqual(alone_of(book_of(("throw", 1, 5, WORTHS)), 0), ((10, 3), (3, 1), (0, 1)))

    def test_spoilt_and_thrown_alike(self):
        for load in range(3):
            for partner in (0, 1):
                spoilt, thrown = book_of(("spoil", load, 5)), book_of(("throw", load, 5, WORTHS))
                self.assertEqual(alone_of(spoilt, partner), alone_of(thrown, partner))

    def test_without_loads(self):
        self.assertEqual(alone_of((TRAIN, (), ()), 1), ((0, 1),) * 3)

    def test_great_numbers(self):
        first = ((0, GREAT, ((1, 3), (2, 3))), (0, GREAT + 2, ((0, 1), (1, 1))))
        book = (TRAIN, first, (("pool", 0, 1), ("throw", 2, 3, WORTHS), ("swap", 2, 1, 1, GREAT)))
        for partner in (0, 1):
            told = tuple(map(amount, alone_step_by_step(book, partner)))
            self.assertEqual(alone_of(book, partner), told)


class ByOthers(unittest.TestCase):
    def test_each_partner(self):
        below = above = 0
        for book in ALL_BOOKS:
            for partner in range(book[0][0]):
                pairs = zip(theirs_by(book, len(book[2]), partner), alone_step_by_step(book, partner))
                told = by_others(book, partner)
                self.assertEqual(told, tuple(amount(fraction(one) - other) for one, other in pairs), (book, partner))
                self.assertTrue(all(is_amount(one) for one in told))
                below += len([one for one in told if one[0] < 0])
                above += len([one for one in told if one[0] > 0])
        self.assertGreater(min(below, above), 50)

    def test_of_each_kind_it_adds_up_to_nothing(self):
        for book in ALL_BOOKS:
            each = [by_others(book, partner) for partner in range(book[0][0])]
            self.assertEqual([sum(fraction(one[kind]) for one in each) for kind in range(book[0][1])], [0] * book[0][1])

    def test_without_throws_and_sales_nothing(self):
        for book in ALL_BOOKS:
            deeds = tuple(deed for deed in book[2] if deed[0] != "sell")
            # In the stead of throws the same is spoilt, so that all other deeds can be done still.
            deeds = tuple(("spoil",) + deed[1:3] if deed[0] == "throw" else deed for deed in deeds)
            plain = (book[0], book[1], deeds)
            for partner in range(book[0][0]):
                self.assertEqual(by_others(plain, partner), ((0, 1),) * book[0][1], (book, partner))
                self.assertEqual(alone_of(plain, partner), theirs_by(plain, len(deeds), partner))
                self.assertEqual(alone_of(plain, partner), alone_of(book, partner))

    def test_by_hand(self):
        sold = book_of(("sell", 0, 1, (1, 1)))
        self.assertEqual(by_others(sold, 0), ((-25, 3), (-3, 1), (0, 1)))
        self.assertEqual(by_others(sold, 1), ((25, 3), (3, 1), (0, 1)))
        # All is worth 15 + 12 + 20 = 47, the five that are thrown 5; partner 1 bears that part of its 20 thirds and 3.
        thrown = book_of(("throw", 1, 5, WORTHS))
        self.assertEqual(by_others(thrown, 1), (amount(Fraction(-100, 141)), amount(Fraction(-15, 47)), (0, 1)))
        self.assertEqual(by_others(thrown, 0), (amount(Fraction(100, 141)), amount(Fraction(15, 47)), (0, 1)))


class Refused(unittest.TestCase):
    def test_no_partner(self):
        for asked in (alone_of, by_others):
            others = [thing for thing in WHATEVER if isinstance(thing, bool) or thing not in (0, 1)]
            for thing in [2, 3, 4, -2, 10 ** 40 - 1] + NO_NUMBERS + others:
                with self.assertRaises(NoPartner) as taken:
                    asked(MIXED, thing)
                self.assertIs(type(taken.exception), NoPartner)

    def test_not_done_ahead(self):
        for asked in (alone_of, by_others):
            for thing in [0, 1, 2] + NO_NUMBERS + WHATEVER:
                with self.assertRaises(NotDone) as taken:
                    asked(UNDONE, thing)
                self.assertEqual(taken.exception.at, 4)


class Kept(unittest.TestCase):
    def test_books_by_turns(self):
        books = [MIXED] + other_books(MIXED)
        alone = [[(alone_of(book, partner), by_others(book, partner)) for partner in (0, 1)] for book in books]
        for other in range(1, len(books)):
            for at in (0, other, 0, other):
                told = [(alone_of(books[at], partner), by_others(books[at], partner)) for partner in (0, 1)]
                self.assertEqual(told, alone[at])


if __name__ == "__main__":
    unittest.main()
