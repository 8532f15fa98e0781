"""[2], [5], [7], [23], [61]: the book without a sale, and what the sale turned."""

import unittest

from sharetrail.amounts import is_amount
from sharetrail.books import first_wrong, is_book
from sharetrail.errors import NoSale
from sharetrail.loads import theirs_by
from sharetrail.sales import turned_by, unsold
from things import BOOKS, HALVES, MIXED, NO_NUMBERS, TRAIN, WHATEVER, WORTHS, amount, fraction, other_books

FIRST = ((0, 10, ((1, 3), (2, 3))), (1, 6, ((1, 1), (0, 1))))
THREE = (3, 2, 2, ((1, 2), (1, 3), (1, 6)), 0, 0)
GREAT = 10 ** 35 + 7
SALE = ("sell", 0, 1, (1, 4))


def book_of(*deeds):
    return (TRAIN, FIRST, deeds)


def sales_of(book):
    return [place for place, deed in enumerate(book[2]) if deed[0] == "sell"]


def theirs_at_end(book, partner):
    return theirs_by(book, len(book[2]), partner)


ALL_BOOKS = BOOKS + [MIXED] + other_books(MIXED)
SALES = [(book, place) for book in ALL_BOOKS for place in sales_of(book)]


class Unsold(unittest.TestCase):
    def test_there_are_books_with_one_sale_and_with_several_and_sales_at_the_end(self):
        self.assertLessEqual({0, 1, 2, 3}, {len(sales_of(book)) for book in ALL_BOOKS})
        self.assertTrue([place for book, place in SALES if place == len(book[2]) - 1])

    def test_each_sale(self):
        for book, place in SALES:
            deeds = [deed for at, deed in enumerate(book[2]) if at != place]
            without = unsold(book, place)
            self.assertEqual(without, (book[0], book[1], tuple(deeds)))
            self.assertTrue(is_book(without) and first_wrong(without) is None, (book, place))

    def test_of_two_equal_sales_one_is_kept(self):
        self.assertEqual(unsold(book_of(SALE, SALE), 1), book_of(SALE))

    def test_what_was_told_is_handed_in_again(self):
        for book in ALL_BOOKS:
            without = book
            while sales_of(without):
                without = unsold(without, sales_of(without)[-1])
            self.assertEqual(without[2], tuple(deed for deed in book[2] if deed[0] != "sell"))


class Turned(unittest.TestCase):
    def test_each_sale(self):
        for book, place in SALES:
            without = (book[0], book[1], book[2][:place] + book[2][place + 1:])
            told = []
            for partner in range(book[0][0]):
                pairs = zip(theirs_at_end(book, partner), theirs_at_end(without, partner))
                told.append(tuple(amount(fraction(one) - fraction(other)) for one, other in pairs))
            self.assertEqual(turned_by(book, place), tuple(told), (book, place))

    def test_of_each_kind_it_adds_up_to_nothing(self):
        below = 0
        for book, place in SALES:
            told = turned_by(book, place)
            self.assertEqual([len(told)] + [len(theirs) for theirs in told], [book[0][0]] + [book[0][1]] * book[0][0])
            for kind in range(book[0][1]):
                self.assertEqual(sum(fraction(theirs[kind]) for theirs in told), 0, (book, place))
            for theirs in told:
                self.assertTrue(all(is_amount(one) for one in theirs))
                below += len([one for one in theirs if one[0] < 0])
        self.assertGreater(below, 50)

    def test_without_a_throw_or_a_sale_behind_it_turns_nothing_of_others(self):
        plain = 0
        for book, place in SALES:
            partner, other = book[2][place][1:3]
            if not any(deed[0] in ("throw", "sell") for deed in book[2][place + 1:]):
                told = turned_by(book, place)
                plain += book[0][0] > 2
                for third in set(range(book[0][0])) - {partner, other}:
                    self.assertEqual(told[third], ((0, 1),) * book[0][1], (book, place))
                for kind in range(book[0][1]):
                    self.assertGreaterEqual(told[other][kind][0], 0, (book, place))
        self.assertGreater(plain, 10)

    def test_with_a_throw_behind_it_others_may_be_turned(self):
        # Partner 2 has nothing of what is thrown from, and the sale changes to whom it bears.
        first = ((0, 6, ((1, 1), (0, 1), (0, 1))), (1, 6, ((0, 1), (0, 1), (1, 1))))
        book = (THREE, first, (("sell", 0, 1, (1, 2)), ("throw", 0, 3, (1, 1, 1)), ("sell", 1, 2, (1, 1))))
        self.assertNotEqual(turned_by(book, 0)[2], ((0, 1), (0, 1)))

    def test_by_hand(self):
        # A quarter of a third of 10, and of all 6.
        told = (((-5, 6), (-3, 2), (0, 1)), ((5, 6), (3, 2), (0, 1)))
        self.assertEqual(turned_by(book_of(SALE), 0), told)
        # What is brought later isn't sold, be it pooled with what is.
        self.assertEqual(turned_by(book_of(SALE, ("bring", 0, 0, 5)), 0), told)
        self.assertEqual(turned_by(book_of(SALE, ("bring", 0, 0, 5), ("pool", 0, 2)), 0), told)
        # All that comes of it is.
        swapped = (((0, 1), (-3, 2), (-5, 3)), ((0, 1), (3, 2), (5, 3)))
        self.assertEqual(turned_by(book_of(SALE, ("swap", 0, 10, 2, 20)), 0), swapped)
        spoilt = (((-5, 12), (-3, 2), (0, 1)), ((5, 12), (3, 2), (0, 1)))
        self.assertEqual(turned_by(book_of(SALE, ("spoil", 0, 5)), 0), spoilt)
        self.assertEqual(turned_by(book_of(("spoil", 0, 5), SALE), 1), spoilt)

    def test_a_throw_behind_it(self):
        book = book_of(SALE, ("throw", 1, 3, WORTHS))
        # All is worth 42, and 6 are thrown; with the sale partner 0 has a quarter of load 0 and 3 quarters of load 1.
        first = 10 * (fraction((6, 7)) * (fraction((1, 4)) - fraction((1, 3))) + fraction((1, 7)) * fraction((-1, 4)))
        second = 3 * (fraction((3, 4)) - 1)
        self.assertEqual(turned_by(book, 0)[0], (amount(first), amount(second), (0, 1)))

    def test_of_nothing_it_turns_nothing(self):
        book = (TRAIN, ((0, 4, ((0, 1), (1, 1))),), (("sell", 0, 1, (1, 1)),))
        self.assertEqual(turned_by(book, 0), (((0, 1),) * 3,) * 2)
        self.assertEqual(turned_by((TRAIN, (), (SALE,)), 0), (((0, 1),) * 3,) * 2)

    def test_great_numbers(self):
        book = (TRAIN, ((0, GREAT, HALVES),), (("sell", 0, 1, (1, 7)), ("throw", 0, 1, WORTHS)))
        self.assertEqual(turned_by(book, 0)[1][0], amount(fraction((GREAT - 1, 14))))


class Places(unittest.TestCase):
    def test_places_of_other_deeds_and_no_places(self):
        for book in (MIXED, book_of(), book_of(SALE), book_of(("throw", 1, 3, WORTHS), SALE)):
            right = sales_of(book)
            others = [place for place in range(-14, 30) if place not in right]
            things = [thing for thing in WHATEVER if isinstance(thing, bool) or thing not in right]
            for place in others + NO_NUMBERS + things + ["sell", SALE, [SALE], {0: SALE}]:
                for asked in (unsold, turned_by):
                    with self.assertRaises(NoSale) as taken:
                        asked(book, place)
                    self.assertIs(type(taken.exception), NoSale)

    def test_truths_are_no_places(self):
        for place in (False, True):
            for asked in (unsold, turned_by):
                with self.assertRaises(NoSale):
                    asked(book_of(SALE, SALE), place)


class Kept(unittest.TestCase):
    def test_books_by_turns(self):
        books = [MIXED] + other_books(MIXED)
        alone = [[(unsold(book, at), turned_by(book, at)) for at in sales_of(book)] for book in books]
        for other in range(1, len(books)):
            for at in (0, other, 0, other):
                told = [(unsold(books[at], place), turned_by(books[at], place)) for place in sales_of(books[at])]
                self.assertEqual(told, alone[at])


if __name__ == "__main__":
    unittest.main()
