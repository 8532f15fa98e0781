"""[2], [5], [7], [51]: what a throw costs, and its bearing."""

import unittest
from fractions import Fraction

from sharetrail.amounts import is_amount
from sharetrail.books import is_share
from sharetrail.errors import NoThrow
from sharetrail.loads import holders_by, loads_by
from sharetrail.throws import bearing, bearing_holds, cost_of
from things import BOOKS, HALVES, MIXED, NO_NUMBERS, TRAIN, WHATEVER, WORTHS, amount, fraction, other_books, with_part

FIRST = ((0, 10, ((1, 3), (2, 3))), (1, 6, ((1, 1), (0, 1))))
GREAT = 10 ** 39 + 3


def book_of(*deeds):
    return (TRAIN, FIRST, deeds)


def throws_of(book):
    return [place for place, deed in enumerate(book[2]) if deed[0] == "throw"]


def theirs_by_worths(book, many, worths, partner):
    together = sum(pieces * worths[kind] * fraction(owners[partner]) for kind, pieces, owners in loads_by(book, many))
    return together + book[0][2] * worths[-1] * fraction(holders_by(book, many)[partner])


THROWS = [(book, place) for book in BOOKS + [MIXED] + other_books(MIXED) for place in throws_of(book)]


class Costs(unittest.TestCase):
    def test_there_are_books_with_one_to_three_throws(self):
        self.assertEqual({len(throws_of(book)) for book in BOOKS}, {0, 1, 2, 3})

    def test_each_throw(self):
        for book, place in THROWS:
            load, pieces, worths = book[2][place][1:]
            loads = loads_by(book, place)
            all_of_it = sum(many * worths[kind] for kind, many, owners in loads) + book[0][2] * worths[book[0][1]]
            cost = cost_of(book, place)
            self.assertEqual(cost, amount(Fraction(pieces * worths[loads[load][0]], all_of_it)), (book, place))
            self.assertTrue(is_share(cost))

    def test_by_hand(self):
        # All is worth 10 + 12 + 20 = 42, what is thrown 6, or 12, or 10.
        self.assertEqual(cost_of(book_of(("throw", 1, 3, WORTHS)), 0), (1, 7))
        self.assertEqual(cost_of(book_of(("throw", 1, 6, WORTHS)), 0), (2, 7))
        self.assertEqual(cost_of(book_of(("throw", 0, 10, WORTHS)), 0), (5, 21))

    def test_what_was_lost_ahead_is_worth_nothing(self):
        book = book_of(("throw", 1, 3, WORTHS), ("spoil", 0, 10), ("throw", 1, 3, WORTHS))
        self.assertEqual(cost_of(book, 2), (3, 13))

    def test_great_numbers(self):
        book = (TRAIN, ((0, GREAT, HALVES),), (("throw", 0, 1, (3, 1, 1, 2)),))
        self.assertEqual(cost_of(book, 0), amount(Fraction(3, 3 * GREAT + 10)))


class Bearing(unittest.TestCase):
    def test_each_throw(self):
        for book, place in THROWS:
            worths = book[2][place][3]
            told = []
            for partner in range(book[0][0]):
                many = [amount(theirs_by_worths(book, many, worths, partner)) for many in (place, place + 1)]
                told.append(tuple(many))
            self.assertEqual(bearing(book, place), tuple(told), (book, place))

    def test_each_bears_the_same_part(self):
        for book, place in THROWS:
            cost = fraction(cost_of(book, place))
            for ahead, behind in bearing(book, place):
                self.assertEqual(fraction(behind), fraction(ahead) - fraction(ahead) * cost, (book, place))
                self.assertTrue(is_amount(ahead) and is_amount(behind))

    def test_together_they_have_all_and_bear_what_was_thrown(self):
        for book, place in THROWS:
            load, pieces, worths = book[2][place][1:]
            loads = loads_by(book, place)
            all_of_it = sum(many * worths[kind] for kind, many, owners in loads) + book[0][2] * worths[-1]
            pairs = bearing(book, place)
            self.assertEqual(sum(fraction(ahead) for ahead, behind in pairs), all_of_it)
            left = all_of_it - pieces * worths[loads[load][0]]
            self.assertEqual(sum(fraction(behind) for ahead, behind in pairs), left)

    def test_by_hand(self):
        # Ahead: a third of 10, all of 12, half of 20; two thirds of 10, half of 20. Behind: six sevenths of that.
        told = bearing(book_of(("throw", 1, 3, WORTHS)), 0)
        self.assertEqual(told, (((76, 3), (152, 7)), ((50, 3), (100, 7))))

    def test_a_partner_that_has_nothing(self):
        book = (with_part(TRAIN, 3, ((1, 1), (0, 1))), ((0, 3, ((1, 1), (0, 1))),), (("throw", 0, 2, WORTHS),))
        self.assertEqual(bearing(book, 0)[1], ((0, 1), (0, 1)))


class Holds(unittest.TestCase):
    def wrong(self, thing, book=MIXED, place=4):
        self.assertIs(bearing_holds(book, place, thing), False, thing)

    def test_right(self):
        for book, place in THROWS:
            self.assertIs(bearing_holds(book, place, bearing(book, place)), True)

    def test_of_another_throw(self):
        places = throws_of(MIXED)
        for place in places:
            for other in places:
                self.assertIs(bearing_holds(MIXED, place, bearing(MIXED, other)), place == other)
        for other in other_books(MIXED):
            for place in throws_of(other):
                for mine in places:
                    told = bearing(other, place)
                    self.assertIs(bearing_holds(MIXED, mine, told), told == bearing(MIXED, mine))

    def test_one_amount_otherwise(self):
        for place in throws_of(MIXED):
            told = bearing(MIXED, place)
            for partner in (0, 1):
                for at in (0, 1):
                    top, bottom = told[partner][at]
                    lowest_not = [(2 * top, 2 * bottom), (7 * top, 7 * bottom), (-top, -bottom)]
                    others = [(top + bottom, bottom), (top + 1, bottom), (top, bottom + 1), (-top, bottom), (0, 1)]
                    forms = [[top, bottom], (top,), (bottom, top), (top, bottom, 1), top, None, {top: bottom}]
                    forms.append(f"{top}/{bottom}")
                    for other in lowest_not + others + forms:
                        self.wrong(with_part(told, partner, with_part(told[partner], at, other)), place=place)

    def test_a_pair_more_less_twice_exchanged(self):
        for place in throws_of(MIXED):
            told = bearing(MIXED, place)
            nothing = ((0, 1), (0, 1))
            for thing in (told + (nothing,), (nothing,) + told, told[:1], told[1:], (), told + told[1:], told + told):
                self.wrong(thing, place=place)
            self.wrong(told[::-1], place=place)
            self.wrong(tuple(pair[::-1] for pair in told), place=place)
            self.wrong((told[0], told[0]), place=place)

    def test_one_amount_more_or_less_in_a_pair(self):
        told = bearing(MIXED, 4)
        for pair in (told[0] + ((0, 1),), told[0][:1], told[0][1:], (), (told[0],)):
            self.wrong((pair, told[1]))

    def test_lists_in_the_stead_of_tuples(self):
        told = bearing(MIXED, 4)
        for thing in (list(told), [told], (told,), dict(enumerate(told)), str(told)):
            self.wrong(thing)
        for partner in (0, 1):
            self.wrong(with_part(told, partner, list(told[partner])))
            for at in (0, 1):
                self.wrong(with_part(told, partner, with_part(told[partner], at, list(told[partner][at]))))

    def test_truths_in_the_stead_of_numbers(self):
        # All is worth 2 and is one partner's; the other has nothing.
        train = (2, 1, 1, ((1, 1), (0, 1)), 0, 0)
        book = (train, ((0, 1, ((1, 1), (0, 1))),), (("throw", 0, 1, (1, 1)),))
        told = bearing(book, 0)
        self.assertEqual(told, (((2, 1), (1, 1)), ((0, 1), (0, 1))))
        for partner in (0, 1):
            for at in (0, 1):
                for part in (0, 1):
                    number = told[partner][at][part]
                    if number < 2:
                        changed = with_part(told[partner][at], part, bool(number))
                        thing = with_part(told, partner, with_part(told[partner], at, changed))
                        self.assertEqual(thing, told)
                        self.wrong(thing, book, 0)

    def test_whatever(self):
        told = bearing(MIXED, 4)
        for thing in WHATEVER + NO_NUMBERS:
            self.wrong(thing)
            self.wrong((thing, told[1]))
            self.wrong((told[0], thing))
            self.wrong((told[0], (told[1][0], thing)))
            self.wrong((told[0], (thing, told[1][1])))
            self.wrong((told[0], ((thing, told[1][0][1]), told[1][1])))


class Places(unittest.TestCase):
    def test_places_of_other_deeds_and_no_places(self):
        for book in (MIXED, book_of(), book_of(("throw", 1, 3, WORTHS))):
            others = [place for place in range(-14, 30) if place not in throws_of(book)]
            things = [thing for thing in WHATEVER if isinstance(thing, bool) or thing not in throws_of(book)]
            for place in others + NO_NUMBERS + things:
                with self.assertRaises(NoThrow):
                    cost_of(book, place)
                with self.assertRaises(NoThrow):
                    bearing(book, place)
                for thing in (None, ()):
                    with self.assertRaises(NoThrow):
                        bearing_holds(book, place, thing)

    def test_false_is_no_place(self):
        book = book_of(("throw", 1, 3, WORTHS), ("throw", 1, 3, WORTHS))
        for place in (False, True):
            with self.assertRaises(NoThrow):
                cost_of(book, place)


class Kept(unittest.TestCase):
    def test_books_by_turns(self):
        books = [MIXED] + other_books(MIXED)
        alone = [[(cost_of(book, place), bearing(book, place)) for place in throws_of(book)] for book in books]
        for other in range(1, len(books)):
            for at in (0, other, 0, other):
                told = [(cost_of(books[at], place), bearing(books[at], place)) for place in throws_of(books[at])]
                self.assertEqual(told, alone[at])


if __name__ == "__main__":
    unittest.main()
