"""[2], [5], [7], [71], [72], [73]: dues, accounts, what each takes, what stays over, and the next book."""

import functools
import itertools
import random
import unittest
from fractions import Fraction

from sharetrail.amounts import is_amount
from sharetrail.books import are_owners, first_wrong, is_book, is_load
from sharetrail.errors import NoOrder, NoPrices, TooMany
from sharetrail.home import account_of, due_of, next_book, settled, stays_over, takes_of
from sharetrail.loads import holders_by, loads_by, theirs_by
from things import BOOKS, HALVES, MIXED, NO_NUMBERS, TRAIN, WHATEVER, WORTHS, amount, fraction, other_books, with_part

GREAT = 10 ** 35 + 7


def hired(book, hire, part):
    """The book with another hire and another part."""
    return (book[0][:4] + (hire, part),) + book[1:]


# Hire and part from 0 to 9, each with several books.
ALL_BOOKS = [hired(book, at % 10, at * 7 % 10) for at, book in enumerate(BOOKS + [MIXED] + other_books(MIXED))]
ALL_BOOKS += [hired(MIXED, hire, 9 - hire) for hire in range(10)]


@functools.cache
def dues_of(book):
    """The dues by loads and partners, reckoned by the words of the document."""
    hire, many = book[0][4], len(book[2])
    holders = holders_by(book, many)
    return [
        [
            pieces * ((10 - hire) * fraction(owners[partner]) + hire * fraction(holders[partner])) / 10
            for partner in range(book[0][0])
        ]
        for kind, pieces, owners in loads_by(book, many)
    ]


def settled_step_by_step(book, order):
    """What is taken and what is left and what is still due, each partner settling in turn."""
    still = [list(dues) for dues in dues_of(book)]
    left = [load[1] for load in loads_by(book, len(book[2]))]
    taken = []
    for partner in order:
        takes = []
        for load, pieces in enumerate(left):
            whole = int(still[load][partner]) if pieces > 0 else 0
            assert whole <= pieces
            still[load][partner] -= whole
            left[load] -= whole
            takes += [(load, whole)] if whole > 0 else []
        taken.append(takes)
    return taken, tuple(left), still


def orders_of(book):
    """All orders of all partners and of some of them, the empty one too."""
    partners = book[0][0]
    return [order for many in range(partners + 1) for order in itertools.permutations(range(partners), many)]


class Dues(unittest.TestCase):
    def test_each_partner_and_load(self):
        empty = 0
        for book in ALL_BOOKS:
            for load, dues in enumerate(dues_of(book)):
                for partner, due in enumerate(dues):
                    told = due_of(book, partner, load)
                    self.assertEqual(told, amount(due), (book, partner, load))
                    self.assertTrue(is_amount(told) and told[0] >= 0)
                empty += sum(dues) == 0
        self.assertGreater(empty, 100)

    def test_of_each_load_they_add_up_to_its_pieces(self):
        for book in ALL_BOOKS:
            for load, (kind, pieces, owners) in enumerate(loads_by(book, len(book[2]))):
                dues = [due_of(book, partner, load) for partner in range(book[0][0])]
                self.assertEqual(sum(map(fraction, dues)), pieces, (book, load))

    def test_by_hand(self):
        train = (2, 1, 3, ((1, 1), (0, 1)), 0, 0)
        for hire in range(10):
            book = hired((train, ((0, 10, ((1, 4), (3, 4))),), ()), hire, 0)
            # Partner 0 has a quarter of what isn't hire, and all the hire.
            self.assertEqual(due_of(book, 0, 0), amount(Fraction(10 - hire, 4) + hire))
            self.assertEqual(due_of(book, 1, 0), amount(Fraction(3 * (10 - hire), 4)))

    def test_the_holders_behind_all_deeds_count(self):
        train = (2, 1, 3, ((1, 1), (0, 1)), 5, 0)
        book = (train, ((0, 10, HALVES),), (("sell", 0, 1, (1, 1)),))
        self.assertEqual([due_of(book, partner, 0) for partner in (0, 1)], [(0, 1), (10, 1)])

    def test_a_load_without_pieces(self):
        book = (TRAIN, ((0, 10, HALVES),), (("spoil", 0, 10),))
        self.assertEqual([due_of(book, partner, 0) for partner in (0, 1)], [(0, 1), (0, 1)])

    def test_great_numbers(self):
        book = ((2, 1, 1, ((1, 7), (6, 7)), 3, 0), ((0, GREAT, ((1, 3), (2, 3))),), ())
        self.assertEqual(due_of(book, 0, 0), amount(GREAT * (Fraction(7, 30) + Fraction(3, 70))))


def account(book, partner, ahead, later):
    """The account, reckoned by the words of the document."""
    train, first, deeds = book
    put = sum(fraction(owners[partner]) * pieces * ahead[kind] for kind, pieces, owners in first)
    put += sum(deed[3] * ahead[deed[2]] for deed in deeds if deed[:2] == ("bring", partner))
    kinds = [load[0] for load in loads_by(book, len(deeds))]
    worth = sum(dues[partner] * later[kind] for kind, dues in zip(kinds, dues_of(book)))
    gain = Fraction(worth - put)
    return tuple(map(amount, (Fraction(put), Fraction(worth), gain, max(gain, Fraction(0)) * train[5] / 10)))


class Accounts(unittest.TestCase):
    def test_each_partner(self):
        chance = random.Random(7)
        signs = set()
        for book in ALL_BOOKS:
            kinds = book[0][1]
            for partner in range(book[0][0]):
                for most in ((99, 99), (99, 5), (5, 99), (1, 1)):
                    ahead, later = [tuple(chance.randint(1, top) for _ in range(kinds)) for top in most]
                    told = account_of(book, partner, ahead, later)
                    self.assertEqual(told, account(book, partner, ahead, later), (book, partner, ahead, later))
                    self.assertTrue(all(is_amount(one) for one in told))
                    signs.add((told[2][0] > 0) - (told[2][0] < 0))
        self.assertEqual(signs, {-1, 0, 1})

    def test_by_hand(self):
        train = (2, 2, 3, HALVES, 0, 3)
        first = ((0, 10, ((1, 4), (3, 4))), (1, 3, ((1, 1), (0, 1))))
        book = (train, first, (("bring", 0, 0, 2), ("bring", 1, 0, 5), ("swap", 1, 3, 0, 4)))
        # Put: 10 quarters and 2 of kind 0, 3 of kind 1. Due: 10 quarters, 2 and 4 of kind 0.
        self.assertEqual(account_of(book, 0, (2, 7), (4, 1)), ((30, 1), (34, 1), (4, 1), (6, 5)))
        self.assertEqual(account_of(book, 0, (4, 1), (2, 7)), ((21, 1), (17, 1), (-4, 1), (0, 1)))
        self.assertEqual(account_of(book, 1, (4, 1), (4, 1)), ((50, 1), (50, 1), (0, 1), (0, 1)))

    def test_the_leaders_part(self):
        book = ((1, 1, 1, ((1, 1),), 0, 0), ((0, 10, ((1, 1),)),), ())
        for part in range(10):
            self.assertEqual(account_of(hired(book, 0, part), 0, (1,), (4,))[3], (3 * part, 1))
            self.assertEqual(account_of(hired(book, 0, part), 0, (1,), (1,))[2:], ((0, 1), (0, 1)))
            self.assertEqual(account_of(hired(book, 0, part), 0, (4,), (1,))[2:], ((-30, 1), (0, 1)))

    def test_a_gain_of_less_than_a_piece(self):
        # Nine tenths of a third, and a tenth of two thirds, for a third.
        book = ((2, 1, 1, ((2, 3), (1, 3)), 1, 7), ((0, 1, ((1, 3), (2, 3))),), ())
        self.assertEqual(account_of(book, 0, (1,), (1,)), ((1, 3), (11, 30), (1, 30), (7, 300)))

    def test_what_was_lost_was_put_in_still(self):
        book = (TRAIN, (), (("bring", 0, 0, 6), ("spoil", 0, 6)))
        self.assertEqual(account_of(book, 0, (3, 1, 1), (9, 9, 9)), ((18, 1), (0, 1), (-18, 1), (0, 1)))

    def test_great_numbers(self):
        book = ((1, 1, 1, ((1, 1),), 4, 1), ((0, GREAT, ((1, 1),)),), (("bring", 0, 0, GREAT),))
        told = account_of(book, 0, (98,), (99,))
        self.assertEqual(told, ((196 * GREAT, 1), (198 * GREAT, 1), (2 * GREAT, 1), amount(Fraction(GREAT, 5))))

    def test_no_prices(self):
        right = (1, 99, 50)
        wrong = [(), (1, 2), (1, 2, 3, 4), [1, 2, 3], "123", (0, 1, 2), (1, 100, 2), (1, 2, -3), (1, 2, 10 ** 39)]
        wrong += [(True, 1, 2), (1, 2, True), (1, None, 2), (1, "2", 3), (1, [2], 3), (1, (2,), 3), (1, {}, 3)]
        wrong += [thing for thing in WHATEVER + NO_NUMBERS if thing != (1, 2, 3)]
        self.assertIn((1, 2, 3), WHATEVER)
        for thing in wrong:
            for prices in ((thing, right), (right, thing), (thing, thing)):
                with self.assertRaises(NoPrices) as taken:
                    account_of(MIXED, 0, *prices)
                self.assertIs(type(taken.exception), NoPrices)


class Settling(unittest.TestCase):
    def test_all_orders(self):
        for book in ALL_BOOKS:
            for order in orders_of(book):
                taken, left, still = settled_step_by_step(book, order)
                self.assertEqual(settled(book, order), (taken, left), (book, order))

    def test_kinds(self):
        for book in ALL_BOOKS:
            told = settled(book, (0,))
            self.assertEqual([type(told)] + [type(part) for part in told], [tuple, list, tuple])
            self.assertEqual([type(takes) for takes in told[0]], [list])

    def test_the_same_in_whichever_order(self):
        for book in ALL_BOOKS:
            takes = [takes_of(book, partner) for partner in range(book[0][0])]
            for order in orders_of(book):
                self.assertEqual(settled(book, order)[0], [takes[partner] for partner in order], (book, order))

    def test_what_is_taken_rises_and_is_above_nothing(self):
        for book in ALL_BOOKS:
            for partner in range(book[0][0]):
                takes = takes_of(book, partner)
                loads = [load for load, pieces in takes]
                self.assertEqual(loads, sorted(set(loads)))
                self.assertTrue(all(pieces > 0 for load, pieces in takes))

    def test_by_hand(self):
        first = ((0, 10, ((1, 4), (3, 4))), (1, 1, HALVES), (2, 4, ((1, 1), (0, 1))), (0, 3, HALVES))
        book = ((2, 3, 1, HALVES, 0, 0), first, (("spoil", 3, 3),))
        self.assertEqual(settled(book, ()), ([], (10, 1, 4, 0)))
        self.assertEqual(settled(book, (1,)), ([[(0, 7)]], (3, 1, 4, 0)))
        self.assertEqual(settled(book, (0, 1)), ([[(0, 2), (2, 4)], [(0, 7)]], (1, 1, 0, 0)))
        self.assertEqual(settled(book, (1, 0)), ([[(0, 7)], [(0, 2), (2, 4)]], (1, 1, 0, 0)))
        self.assertEqual([takes_of(book, partner) for partner in (0, 1)], [[(0, 2), (2, 4)], [(0, 7)]])

    def test_without_loads(self):
        book = (TRAIN, (), ())
        self.assertEqual(settled(book, (1, 0)), ([[], []], ()))
        self.assertEqual(takes_of(book, 1), [])

    def test_great_numbers(self):
        book = ((2, 1, 1, HALVES, 0, 0), ((0, 3 * GREAT + 1, ((1, 3), (2, 3))),), ())
        self.assertEqual(settled(book, (0, 1)), ([[(0, GREAT)], [(0, 2 * GREAT)]], (1,)))

    def test_no_orders(self):
        wrong = [[], [0], [0, 1], (0, 0), (1, 1), (0, 1, 0), (2,), (0, 2), (-1,), (0, -1), (10 ** 39,), (True,)]
        wrong += [(False,), (0, True), (False, 1), (None,), ("0",), ((0,),), ([0],), ({},), ([], []), (0, [])]
        right = [(), (0,), (1,), (0, 1), (1, 0)]
        wrong += [thing for thing in WHATEVER + NO_NUMBERS if not isinstance(thing, tuple) or thing not in right]
        for thing in wrong:
            with self.assertRaises(NoOrder, msg=thing) as taken:
                settled(MIXED, thing)
            self.assertIs(type(taken.exception), NoOrder)
        for order in right:
            settled(MIXED, order)


class StaysOver(unittest.TestCase):
    def test_each_book(self):
        many = set()
        for book in ALL_BOOKS:
            taken, left, still = settled_step_by_step(book, range(book[0][0]))
            kinds = [load[0] for load in loads_by(book, len(book[2]))]
            over = [
                (kind, pieces, tuple(amount(due / pieces) for due in dues))
                for kind, pieces, dues in zip(kinds, left, still) if pieces > 0
            ]
            self.assertEqual(stays_over(book), tuple(over), book)
            self.assertTrue(all(is_load(book[0], load) for load in over))
            many.add(len(over))
        self.assertLessEqual({0, 1, 2, 3, 4, 5, 6}, many)

    def test_what_is_taken_and_what_stays_over_is_the_due(self):
        for book in ALL_BOOKS:
            for partner in range(book[0][0]):
                kinds = [load[0] for load in loads_by(book, len(book[2]))]
                theirs, dues = [[Fraction(0)] * book[0][1] for _ in range(2)]
                for load, pieces in takes_of(book, partner):
                    theirs[kinds[load]] += pieces
                for kind, pieces, owners in stays_over(book):
                    theirs[kind] += pieces * fraction(owners[partner])
                for load, kind in enumerate(kinds):
                    dues[kind] += fraction(due_of(book, partner, load))
                self.assertEqual(theirs, dues, (book, partner))

    def test_by_hand(self):
        first = ((0, 10, ((1, 4), (3, 4))), (1, 6, HALVES), (2, 1, ((1, 3), (2, 3))))
        book = ((2, 3, 1, HALVES, 0, 0), first, ())
        self.assertEqual(stays_over(book), ((0, 1, HALVES), (2, 1, ((1, 3), (2, 3)))))
        three = ((3, 1, 1, ((1, 1), (0, 1), (0, 1)), 0, 0), ((0, 8, ((1, 3), (1, 3), (1, 3))),), ())
        self.assertEqual(stays_over(three), ((0, 2, ((1, 3), (1, 3), (1, 3))),))

    def test_owners_are_by_what_is_still_due_not_by_what_was_theirs(self):
        book = ((2, 1, 1, HALVES, 0, 0), ((0, 4, ((1, 8), (7, 8))),), (("bring", 0, 0, 1), ("pool", 0, 1)))
        # Due of 5: 1 1/2 and 3 1/2.
        self.assertEqual(stays_over(book), ((0, 1, HALVES),))

    def test_nothing_stays_over(self):
        for book in ((TRAIN, (), ()), (hired((TRAIN, (), ()), 0, 0)[0], ((0, 10, HALVES),), ())):
            self.assertEqual(stays_over(book), ())
            self.assertEqual(next_book(book), (book[0], (), ()))


class NextBooks(unittest.TestCase):
    def test_each_book(self):
        refused = 0
        for book in ALL_BOOKS:
            over = stays_over(book)
            if len(over) > 4:
                refused += 1
                with self.assertRaises(TooMany) as taken:
                    next_book(book)
                self.assertIs(type(taken.exception), TooMany)
            else:
                told = next_book(book)
                self.assertEqual(told, (with_part(book[0], 3, holders_by(book, len(book[2]))), over, ()))
                self.assertTrue(is_book(told))
        self.assertGreater(refused, 5)

    def test_four_and_five_loads_that_stay_over(self):
        train = (2, 1, 1, HALVES, 0, 0)
        four = (train, ((0, 1, HALVES),) * 4, ())
        self.assertEqual(next_book(four), four)
        brought = (("bring", 0, 0, 1), ("sell", 0, 1, (1, 2)))
        five = (train, ((0, 1, HALVES),) * 4, brought)
        self.assertEqual(len(stays_over(five)), 5)
        with self.assertRaises(TooMany):
            next_book(five)

    def test_trains_one_behind_the_other(self):
        chance = random.Random(5)
        trains = 0
        for book in [book for book in ALL_BOOKS if len(stays_over(book)) <= 4]:
            for _ in range(3):
                theirs = [
                    [sum(pieces * fraction(owners[partner]) for other, pieces, owners in stays_over(book)
                         if other == kind) for kind in range(book[0][1])]
                    for partner in range(book[0][0])
                ]
                book = next_book(book)
                # What stays over is theirs still on the next train.
                told = [theirs_by(book, 0, partner) for partner in range(book[0][0])]
                self.assertEqual([list(map(fraction, each)) for each in told], theirs)
                deeds = [("bring", chance.randrange(book[0][0]), chance.randrange(book[0][1]), chance.randint(1, 99))]
                worths = tuple(chance.randint(1, 99) for _ in range(book[0][1] + 1))
                deeds += [("throw", len(book[1]), 1, worths)]
                book = (book[0], book[1], tuple(deeds))
                self.assertTrue(is_book(book) and first_wrong(book) is None)
                self.assertTrue(are_owners(book[0][0], holders_by(book, 2)))
                trains += 1
                if len(stays_over(book)) > 4:
                    break
        self.assertGreater(trains, 150)

    def test_figures_without_end(self):
        train = (2, 1, 7, ((1, 3), (2, 3)), 3, 1)
        book = (train, ((0, 9, HALVES),), ())
        for turn in range(12):
            deeds = (("bring", 0, 0, GREAT + turn), ("throw", len(book[1]), 5 + turn, (7, 9)), ("pool", 0, 1))
            book = next_book((book[0], book[1], deeds))
            self.assertTrue(is_book(book))
        self.assertGreater(book[0][3][0][1], 10 ** 300)
        self.assertEqual(sum(fraction(due_of(book, partner, 0)) for partner in (0, 1)), book[1][0][1])


def all_told(book):
    """Everything that home tells of a book, with prices of its own."""
    prices = tuple(range(1, book[0][1] + 1))
    told = [stays_over(book)]
    for partner in range(book[0][0]):
        told.append((takes_of(book, partner), account_of(book, partner, prices, prices[::-1])))
        told.append([due_of(book, partner, load) for load in range(len(loads_by(book, len(book[2]))))])
    told.append([settled(book, order) for order in orders_of(book)])
    return told


class Kept(unittest.TestCase):
    def test_told_lists_that_are_changed(self):
        for book in ALL_BOOKS[:10] + [MIXED]:
            kept = all_told(book)
            for partner in range(book[0][0]):
                takes_of(book, partner).append((0, 1))
                taken = settled(book, (partner,))[0]
                taken[0].clear()
                taken.append(None)
            self.assertEqual(all_told(book), kept)

    def test_books_by_turns(self):
        books = [MIXED, hired(MIXED, 9, 9)] + other_books(MIXED)
        alone = [all_told(book) for book in books]
        for other in range(1, len(books)):
            self.assertNotEqual(alone[other], alone[0])
            for at in (0, other, 0, other):
                self.assertEqual(all_told(books[at]), alone[at])


if __name__ == "__main__":
    unittest.main()
