"""[5], [6], [11], [12]: the first deed that can't be done, and the loads that deeds make."""

import unittest

from sharetrail.books import first_wrong, is_book, made_by
from sharetrail.errors import NoNumber, NotDone
from things import HALVES, NO_NUMBERS, TRAIN, WHATEVER

WORTHS = (1, 2, 3, 4)
# Two loads of kind 0 and one of kind 1.
FIRST = ((0, 10, HALVES), (0, 4, ((1, 1), (0, 1))), (1, 6, HALVES))


def book_of(*deeds):
    book = (TRAIN, FIRST, deeds)
    assert is_book(book), book
    return book


def bare_book(*deeds):
    book = (TRAIN, (), deeds)
    assert is_book(book), book
    return book


class FirstWrong(unittest.TestCase):
    def can(self, *deeds):
        self.assertIsNone(first_wrong(book_of(*deeds)), deeds)

    def wrong(self, at, *deeds):
        told = first_wrong(book_of(*deeds))
        self.assertEqual(told, at, deeds)
        self.assertIs(type(told), int)

    def test_all_can_be_done(self):
        self.can()
        self.assertIsNone(first_wrong(bare_book()))
        self.can(
            ("bring", 0, 2, 5), ("pool", 0, 1), ("swap", 4, 14, 1, 1), ("trade", 3, 2, 6, 0, 8), ("spoil", 6, 2),
            ("throw", 6, 6, WORTHS), ("sell", 0, 1, (1, 2)), ("sell", 1, 0, (1, 1)),
        )

    def test_bring_and_sell_can_always(self):
        self.assertIsNone(first_wrong(bare_book(("sell", 0, 1, (1, 1)), ("bring", 1, 2, 1), ("sell", 1, 0, (1, 12)))))

    def test_loads_that_are_not_there(self):
        for load in (3, 4, 10 ** 39):
            deeds = (
                ("pool", 0, load), ("pool", load, 0), ("swap", load, 1, 2, 1), ("trade", 0, load, 1, 2, 1),
                ("spoil", load, 1), ("throw", load, 1, WORTHS),
            )
            for deed in deeds:
                self.wrong(0, deed)
        for deed in (("pool", 0, 1), ("swap", 0, 1, 2, 1), ("spoil", 0, 1), ("throw", 0, 1, WORTHS)):
            self.assertEqual(first_wrong(bare_book(deed)), 0)

    def test_loads_that_are_not_there_yet(self):
        for deed in (("spoil", 3, 1), ("swap", 3, 1, 1, 1), ("trade", 0, 3, 1, 1, 1), ("throw", 3, 1, WORTHS)):
            self.wrong(0, deed, ("bring", 0, 0, 1))
            self.can(("bring", 0, 0, 1), deed)
        self.wrong(0, ("pool", 0, 3), ("bring", 0, 0, 1))
        self.can(("bring", 0, 0, 1), ("pool", 0, 3))
        self.wrong(0, ("pool", 3, 0), ("bring", 0, 0, 1))
        self.can(("bring", 0, 0, 1), ("pool", 3, 0))

    def test_each_maker_makes_one_load_and_no_other_does(self):
        makers = (("bring", 0, 0, 1), ("pool", 0, 1), ("swap", 0, 1, 1, 1), ("trade", 0, 0, 1, 1, 1))
        for maker in makers:
            self.can(maker, ("spoil", 3, 1))
            self.wrong(1, maker, ("spoil", 4, 1))
        for other in (("spoil", 0, 1), ("throw", 0, 1, WORTHS), ("sell", 0, 1, (1, 2))):
            self.wrong(1, other, ("spoil", 3, 1))

    def test_too_many_pieces(self):
        for many, at in ((10, None), (11, 0), (10 ** 39, 0)):
            self.assertEqual(first_wrong(book_of(("spoil", 0, many))), at)
            self.assertEqual(first_wrong(book_of(("throw", 0, many, WORTHS))), at)
            self.assertEqual(first_wrong(book_of(("swap", 0, many, 1, 1))), at)
            self.assertEqual(first_wrong(book_of(("trade", 0, 0, many, 1, 1))), at)

    def test_pieces_that_are_left(self):
        takers = (("spoil", 0, 4), ("throw", 0, 4, WORTHS), ("swap", 0, 4, 1, 9), ("trade", 0, 0, 4, 1, 9))
        for taker in takers:
            self.can(taker, ("spoil", 0, 6))
            self.wrong(1, taker, ("spoil", 0, 7))
            # The other loads keep what they have.
            self.can(taker, ("spoil", 1, 4), ("spoil", 2, 6))
            self.wrong(1, taker, ("spoil", 1, 5))
            self.wrong(1, taker, ("spoil", 2, 7))
        self.can(("sell", 0, 1, (1, 1)), ("spoil", 0, 10))

    def test_pieces_that_are_made(self):
        self.can(("bring", 0, 0, 7), ("spoil", 3, 7))
        self.wrong(1, ("bring", 0, 0, 7), ("spoil", 3, 8))
        self.can(("swap", 0, 2, 1, 7), ("spoil", 3, 7))
        self.wrong(1, ("swap", 0, 2, 1, 7), ("spoil", 3, 8))
        self.can(("trade", 9, 0, 2, 1, 7), ("spoil", 3, 7))
        self.wrong(1, ("trade", 9, 0, 2, 1, 7), ("spoil", 3, 8))
        for pool in (("pool", 0, 1), ("pool", 1, 0)):
            self.can(pool, ("spoil", 3, 14))
            self.wrong(1, pool, ("spoil", 3, 15))

    def test_pieces_that_are_pooled_are_gone(self):
        for pool in (("pool", 0, 1), ("pool", 1, 0)):
            for load in (0, 1):
                self.wrong(1, pool, ("spoil", load, 1))
                self.wrong(1, pool, ("throw", load, 1, WORTHS))
                self.wrong(1, pool, ("swap", load, 1, 1, 1))
                self.wrong(1, pool, ("trade", 0, load, 1, 1, 1))
                self.wrong(1, pool, ("pool", load, 3))
                self.wrong(1, pool, ("pool", 3, load))
            self.can(pool, ("spoil", 2, 6))

    def test_pool_of_unlike_kinds(self):
        self.wrong(0, ("pool", 0, 2))
        self.wrong(0, ("pool", 2, 1))
        # Kinds of loads that deeds made.
        self.can(("bring", 1, 2, 1), ("bring", 0, 2, 1), ("pool", 4, 3), ("bring", 0, 2, 1), ("pool", 5, 6))
        self.wrong(1, ("bring", 1, 2, 1), ("pool", 3, 0))
        self.can(("swap", 0, 1, 1, 1), ("pool", 3, 2))
        self.wrong(1, ("swap", 0, 1, 1, 1), ("pool", 3, 0))
        self.can(("trade", 0, 0, 1, 1, 1), ("pool", 3, 2))
        self.wrong(1, ("trade", 0, 0, 1, 1, 1), ("pool", 3, 0))
        self.wrong(1, ("pool", 0, 1), ("pool", 2, 3))

    def test_pool_of_a_load_without_pieces(self):
        takers = (("spoil", 1, 4), ("throw", 1, 4, WORTHS), ("swap", 1, 4, 2, 1), ("trade", 0, 1, 4, 2, 1))
        for taker in takers:
            self.wrong(1, taker, ("pool", 0, 1))
            self.wrong(1, taker, ("pool", 1, 0))
        self.can(("spoil", 1, 3), ("pool", 0, 1), ("spoil", 3, 11))

    def test_swap_and_trade_to_its_own_kind(self):
        for load, kind in ((0, 0), (1, 0), (2, 1)):
            for other in (0, 1, 2):
                at = 0 if other == kind else None
                self.assertEqual(first_wrong(book_of(("swap", load, 1, other, 1))), at)
                self.assertEqual(first_wrong(book_of(("trade", 0, load, 1, other, 1))), at)
        self.can(("swap", 0, 1, 1, 1), ("swap", 3, 1, 0, 1))
        self.wrong(1, ("swap", 0, 1, 1, 1), ("swap", 3, 1, 1, 1))

    def test_number_of_a_trade_done_ahead(self):
        trade = ("trade", 5, 0, 1, 1, 1)
        self.wrong(1, trade, trade)
        self.wrong(1, trade, ("trade", 5, 2, 1, 2, 3))
        self.wrong(3, trade, ("sell", 0, 1, (1, 2)), ("trade", 0, 0, 1, 1, 1), ("trade", 5, 2, 1, 2, 3))
        self.wrong(3, ("trade", 0, 0, 1, 1, 1), trade, ("spoil", 0, 1), ("trade", 0, 2, 1, 2, 3))
        self.can(*[("trade", number, 0, 1, 1, 1) for number in range(10)])
        # A load's number, or a swap, is no trade's number.
        self.can(("swap", 0, 1, 1, 1), ("trade", 0, 0, 1, 1, 1), ("spoil", 1, 1), ("trade", 1, 0, 1, 1, 1))

    def test_first_of_several_wrong_ones(self):
        wrong = (("spoil", 9, 1), ("pool", 0, 2), ("swap", 0, 1, 0, 1))
        self.wrong(0, *wrong)
        self.wrong(2, ("bring", 0, 0, 1), ("sell", 0, 1, (1, 2)), *wrong)
        self.wrong(1, ("bring", 0, 0, 1), wrong[2], ("sell", 0, 1, (1, 2)), wrong[0])

    def test_last_of_twenty(self):
        deeds = (("spoil", 0, 1),) * 10 + (("bring", 0, 0, 1),) * 9
        self.wrong(19, *deeds, ("spoil", 0, 1))
        self.can(*deeds, ("spoil", 11, 1))


MIXED = (
    ("sell", 0, 1, (1, 2)), ("bring", 0, 0, 3), ("spoil", 3, 1), ("pool", 0, 3), ("throw", 4, 1, WORTHS),
    ("swap", 4, 2, 1, 3), ("trade", 7, 5, 1, 2, 9), ("sell", 1, 0, (1, 3)), ("bring", 1, 2, 1),
)
NUMBERS = [None, 3, None, 4, None, 5, 6, None, 7]
WRONG = (("bring", 0, 0, 1), ("bring", 0, 0, 1), ("spoil", 9, 1), ("pool", 0, 2))


class MadeBy(unittest.TestCase):
    def test_at_every_place(self):
        book = book_of(*MIXED)
        self.assertEqual([made_by(book, place) for place in range(len(MIXED))], NUMBERS)

    def test_numbers_are_whole_numbers(self):
        book = book_of(*MIXED)
        self.assertEqual([type(made_by(book, place)) for place in (1, 3, 5, 6, 8)], [int] * 5)

    def test_without_first_loads(self):
        book = bare_book(("bring", 0, 0, 1), ("sell", 0, 1, (1, 2)), ("bring", 1, 0, 1), ("pool", 1, 0))
        self.assertEqual([made_by(book, place) for place in range(4)], [0, None, 1, 2])

    def test_twenty_deeds(self):
        book = book_of(*[("bring", 0, 0, 1)] * 20)
        self.assertEqual([made_by(book, place) for place in range(20)], list(range(3, 23)))

    def test_no_place(self):
        book = book_of(*MIXED)
        beyond = [len(MIXED), len(MIXED) + 1, 10 ** 39, -len(MIXED)]
        for place in NO_NUMBERS + beyond + [thing for thing in WHATEVER if thing not in range(len(MIXED))]:
            with self.subTest(place=str(place)[:60]):
                with self.assertRaises(NoNumber):
                    made_by(book, place)

    def test_book_without_deeds(self):
        for place in NO_NUMBERS + [0, 1]:
            with self.assertRaises(NoNumber):
                made_by(bare_book(), place)

    def test_not_done_ahead_of_no_number(self):
        book = book_of(*WRONG)
        for place in NO_NUMBERS + [0, 1, 2, 3, 4, 10 ** 39]:
            with self.assertRaises(NotDone) as taken:
                made_by(book, place)
            self.assertEqual(taken.exception.at, 2)

    def test_not_done_at_the_first_place(self):
        with self.assertRaises(NotDone) as taken:
            made_by(book_of(("spoil", 9, 1)), 0)
        self.assertEqual(taken.exception.at, 0)
        self.assertIs(type(taken.exception.at), int)


class Kept(unittest.TestCase):
    """[5]: the same asked again has the same answer, also behind a refusal."""

    def test_asked_again(self):
        right, wrong = book_of(*MIXED), book_of(*WRONG)
        for _ in range(2):
            self.assertIsNone(first_wrong(right))
            self.assertEqual(first_wrong(wrong), 2)
            self.assertEqual(made_by(right, 6), 6)
            with self.assertRaises(NoNumber):
                made_by(right, 9)
            with self.assertRaises(NotDone):
                made_by(wrong, 0)

    def test_place_that_is_handed_in_is_kept(self):
        place = [[1], {2: (3,)}]
        with self.assertRaises(NoNumber):
            made_by(book_of(*MIXED), place)
        self.assertEqual(place, [[1], {2: (3,)}])


if __name__ == "__main__":
    unittest.main()
