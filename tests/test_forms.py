"""[2], [3], [4], [5], [11]: what is a share, a train, a load, a deed, a book."""

import copy
import unittest

from sharetrail.books import is_book, is_deed, is_load, is_share, is_train
from things import HALVES, NO_NUMBERS, TRAIN, WHATEVER, with_part

THIRDS = ((1, 3), (0, 1), (1, 6), (1, 2))
GREAT = (4, 5, 20, THIRDS, 9, 9)
SMALL = (1, 1, 1, ((1, 1),), 0, 0)

# None of them owners of two partners.
NO_HALVES = [
    None, True, "", (), [], {}, 1, (1, 1), [(1, 2), (1, 2)], ([1, 2], [1, 2]), ((1, 2), [1, 2]),
    ((1, 1),), ((1, 2),), ((1, 2), (1, 2), (0, 1)), ((1, 3), (1, 3), (1, 3)),
    ((1, 2), (1, 3)), ((1, 2), (2, 3)), ((0, 1), (0, 1)), ((1, 1), (1, 1)),
    ((2, 4), (1, 2)), ((1, 2), (2, 4)), ((1, 1), (0, 2)), ((3, 2), (-1, 2)), ((-1, 2), (3, 2)),
    ((True, 1), (0, 1)), ((1, True), (0, 1)), ((1, 1), (False, 1)), ((1, 1), (0, True)), ((1, 2), (1, 2, 1)),
    ((1, 2), None), ("12", "12"), ((1, 0), (0, 1)), ((1, 2), (-1, -2)),
]


class Shares(unittest.TestCase):
    def test_right(self):
        for share in ((0, 1), (1, 1), (1, 2), (2, 3), (12, 13), (1, 10 ** 39), (10 ** 39 - 1, 10 ** 39)):
            self.assertIs(is_share(share), True, share)

    def test_divided_by_a_number(self):
        for thing in ((0, 2), (0, 10 ** 39), (2, 2), (2, 4), (3, 6), (6, 9), (35, 49), (10 ** 38, 10 ** 39)):
            self.assertIs(is_share(thing), False, thing)

    def test_beyond_its_bounds(self):
        for thing in ((2, 1), (3, 2), (10 ** 39, 1), (-1, 1), (-1, 2), (1, 0), (0, 0), (1, -1), (0, -1), (-1, -2)):
            self.assertIs(is_share(thing), False, thing)

    def test_truths(self):
        for thing in ((True, 1), (False, 1), (1, True), (0, True), (True, 2), (True, True), (False, True)):
            self.assertIs(is_share(thing), False, thing)

    def test_other_forms(self):
        for thing in ([1, 2], [0, 1], (1,), (1, 2, 1), (0, 1, 1), ((1, 2),), {1: 2}, "12", ("1", "2"), (1, None)):
            self.assertIs(is_share(thing), False, thing)

    def test_whatever(self):
        for thing in WHATEVER:
            self.assertIs(is_share(thing), False, thing)


class Trains(unittest.TestCase):
    def test_right(self):
        for train in (TRAIN, GREAT, SMALL, (2, 1, 1, ((0, 1), (1, 1)), 0, 9), (3, 5, 20, ((1, 3),) * 3, 9, 0)):
            self.assertIs(is_train(train), True, train)

    def test_each_bound_and_one_beyond(self):
        for at, low, high in ((1, 1, 5), (2, 1, 20), (4, 0, 9), (5, 0, 9)):
            for number, right in ((low, True), (high, True), (low - 1, False), (high + 1, False), (10 ** 39, False)):
                self.assertIs(is_train(with_part(TRAIN, at, number)), right, (at, number))

    def test_partners(self):
        shares = {1: ((1, 1),), 2: HALVES, 3: ((1, 3),) * 3, 4: ((1, 4),) * 4}
        for partners in shares:
            self.assertIs(is_train((partners, 1, 1, shares[partners], 0, 0)), True)
        self.assertIs(is_train((0, 1, 1, (), 0, 0)), False)
        self.assertIs(is_train((5, 1, 1, ((1, 5),) * 5, 0, 0)), False)

    def test_no_numbers(self):
        for at in (0, 1, 2, 4, 5):
            for thing in NO_NUMBERS:
                self.assertIs(is_train(with_part(TRAIN, at, thing)), False, (at, thing))
                self.assertIs(is_train(with_part(SMALL, at, thing)), False, (at, thing))

    def test_holders(self):
        for thing in NO_HALVES:
            self.assertIs(is_train(with_part(TRAIN, 3, thing)), False, thing)
        for partners in (1, 3, 4):
            self.assertIs(is_train(with_part(TRAIN, 0, partners)), False)

    def test_a_place_more_or_less(self):
        for train in (TRAIN, GREAT, SMALL):
            self.assertIs(is_train(train + (0,)), False)
            self.assertIs(is_train(train[:5]), False)
            self.assertIs(is_train(train[1:]), False)
            self.assertIs(is_train(list(train)), False)
            self.assertIs(is_train((train,)), False)

    def test_whatever(self):
        for thing in WHATEVER:
            self.assertIs(is_train(thing), False, thing)
            for at in (0, 1, 2, 4, 5):
                if not (isinstance(thing, int) and 0 <= thing <= 9 and not isinstance(thing, bool)):
                    self.assertIs(is_train(with_part(TRAIN, at, thing)), False, (at, thing))
            self.assertIs(is_train(with_part(TRAIN, 3, thing)), False, thing)


class Loads(unittest.TestCase):
    def test_right(self):
        for load in ((0, 0, HALVES), (2, 1, HALVES), (1, 10 ** 39, ((0, 1), (1, 1))), (1, 5, ((2, 3), (1, 3)))):
            self.assertIs(is_load(TRAIN, load), True, load)
        self.assertIs(is_load(SMALL, (0, 7, ((1, 1),))), True)
        self.assertIs(is_load(GREAT, (4, 7, THIRDS)), True)

    def test_kind(self):
        for thing in NO_NUMBERS + [3, 4, 10 ** 39]:
            self.assertIs(is_load(TRAIN, (thing, 1, HALVES)), False, thing)
        self.assertIs(is_load(SMALL, (1, 7, ((1, 1),))), False)
        self.assertIs(is_load(GREAT, (5, 7, THIRDS)), False)

    def test_pieces(self):
        for thing in NO_NUMBERS:
            self.assertIs(is_load(TRAIN, (0, thing, HALVES)), False, thing)

    def test_owners(self):
        for thing in NO_HALVES:
            self.assertIs(is_load(TRAIN, (0, 1, thing)), False, thing)
        self.assertIs(is_load(SMALL, (0, 1, HALVES)), False)
        self.assertIs(is_load(GREAT, (0, 1, HALVES)), False)

    def test_other_forms(self):
        for thing in ([0, 1, HALVES], (0, 1), (1, HALVES), (0, 1, HALVES, 0), ((0, 1, HALVES),), {0: 1, 1: 1, 2: HALVES}):
            self.assertIs(is_load(TRAIN, thing), False, thing)

    def test_whatever(self):
        for thing in WHATEVER:
            self.assertIs(is_load(TRAIN, thing), False, thing)
            self.assertIs(is_load(SMALL, thing), False, thing)


# Of the train TRAIN: of each word a deed, and for each of its places other things that are right, and some that aren't.
PARTNER = ((0, 1), (2, 3, 10 ** 39))
KIND = ((0, 2), (3, 4, 10 ** 39))
PIECES = ((1, 2, 10 ** 39), (0,))
LOAD = ((0, 25, 10 ** 39), ())
NUMBER = ((0, 9), (10, 11, 10 ** 39))
WORTHS = (
    ((1, 99, 1, 99), (99, 99, 99, 99)),
    (
        0, 1, (1, 1, 1), (1, 1, 1, 1, 1), [1, 1, 1, 1], (0, 1, 1, 1), (1, 1, 1, 0), (100, 1, 1, 1), (1, 1, 1, 100),
        (1, 1, 100, 1), (True, 1, 1, 1), (1, 1, 1, True), (1, 1, "1", 1), (1, 1, None, 1), (1, 1, (1,), 1),
        ((1, 1, 1, 1),), (-1, 1, 1, 1), {1: 1, 2: 1, 3: 1, 4: 1},
    ),
)
SHARE = (
    ((1, 1), (1, 12), (11, 12), (1, 2), (2, 3)),
    (
        0, 1, (0, 1), (1, 13), (12, 13), (2, 1), (13, 12), (-1, 2), (2, 4), (2, 2), (6, 12), (0, 2), (1, 0), (1, -1),
        [1, 2], (1,), (1, 2, 3), (True, 1), (1, True), (True, 2), ((1, 2),), "1/2", (1, 10 ** 39),
    ),
)
DEEDS = {
    ("bring", 1, 2, 3): (PARTNER, KIND, PIECES),
    ("pool", 7, 8): (LOAD, LOAD),
    ("swap", 0, 1, 2, 3): (LOAD, PIECES, KIND, PIECES),
    ("trade", 4, 0, 1, 2, 3): (NUMBER, LOAD, PIECES, KIND, PIECES),
    ("spoil", 0, 1): (LOAD, PIECES),
    ("throw", 0, 1, (1, 2, 3, 4)): (LOAD, PIECES, WORTHS),
    ("sell", 0, 1, (1, 2)): (None, None, SHARE),
}


class Deeds(unittest.TestCase):
    def test_right(self):
        for deed in DEEDS:
            self.assertIs(is_deed(TRAIN, deed), True, deed)

    def test_one_place_otherwise(self):
        for deed, places in DEEDS.items():
            for at, bounds in enumerate(places):
                for thing in (bounds or ((), ()))[0]:
                    self.assertIs(is_deed(TRAIN, with_part(deed, at + 1, thing)), True, (deed, at + 1, thing))
                for thing in (bounds or ((), ()))[1]:
                    self.assertIs(is_deed(TRAIN, with_part(deed, at + 1, thing)), False, (deed, at + 1, thing))

    def test_no_number_at_any_place(self):
        for deed in DEEDS:
            for at in range(len(deed)):
                for thing in NO_NUMBERS:
                    if (deed[0], at, thing) != ("sell", 3, (1, 1)):
                        self.assertIs(is_deed(TRAIN, with_part(deed, at, thing)), False, (deed, at, thing))

    def test_truths_in_the_stead_of_numbers(self):
        deeds = (
            ("bring", True, 2, 3), ("bring", False, 2, 3), ("bring", 1, True, 3), ("bring", 1, False, 3),
            ("bring", 1, 2, True), ("pool", False, 1), ("pool", 0, True), ("swap", 0, True, 1, 1),
            ("swap", 0, 1, True, 1), ("swap", 0, 1, 1, True), ("trade", True, 0, 1, 1, 1), ("spoil", 0, True),
            ("throw", True, 1, (1, 1, 1, 1)), ("sell", False, 1, (1, 2)), ("sell", 0, True, (1, 2)),
        )
        for deed in deeds:
            self.assertIs(is_deed(TRAIN, deed), False, deed)

    def test_alike(self):
        for load in (0, 1, 7, 10 ** 39):
            self.assertIs(is_deed(TRAIN, ("pool", load, load)), False)
        for partner in (0, 1):
            self.assertIs(is_deed(TRAIN, ("sell", partner, partner, (1, 2))), False)
        # In other deeds two numbers may be alike.
        for deed in (("bring", 1, 1, 1), ("swap", 1, 1, 1, 1), ("trade", 1, 1, 1, 1, 1), ("spoil", 1, 1)):
            self.assertIs(is_deed(TRAIN, deed), True, deed)

    def test_either_order(self):
        self.assertIs(is_deed(TRAIN, ("pool", 8, 7)), True)
        self.assertIs(is_deed(TRAIN, ("sell", 1, 0, (1, 2))), True)

    def test_sellers_that_the_train_has_not(self):
        for deed in (("sell", 2, 0, (1, 2)), ("sell", 0, 2, (1, 2)), ("sell", -1, 0, (1, 2)), ("sell", 3, 4, (1, 2))):
            self.assertIs(is_deed(TRAIN, deed), False, deed)

    def test_other_trains(self):
        self.assertIs(is_deed(SMALL, ("bring", 0, 0, 1)), True)
        self.assertIs(is_deed(SMALL, ("bring", 1, 0, 1)), False)
        self.assertIs(is_deed(SMALL, ("bring", 0, 1, 1)), False)
        self.assertIs(is_deed(SMALL, ("sell", 0, 1, (1, 2))), False)
        self.assertIs(is_deed(SMALL, ("throw", 0, 1, (1, 1))), True)
        self.assertIs(is_deed(SMALL, ("throw", 0, 1, (1,))), False)
        self.assertIs(is_deed(SMALL, ("throw", 0, 1, (1, 1, 1))), False)
        self.assertIs(is_deed(GREAT, ("bring", 3, 4, 1)), True)
        self.assertIs(is_deed(GREAT, ("bring", 4, 4, 1)), False)
        self.assertIs(is_deed(GREAT, ("bring", 3, 5, 1)), False)
        self.assertIs(is_deed(GREAT, ("throw", 0, 1, (1,) * 6)), True)
        self.assertIs(is_deed(GREAT, ("sell", 3, 0, (1, 2))), True)

    def test_other_words(self):
        for deed in DEEDS:
            for word in ("", "Bring", "bring ", "brought", "SELL", "buy", ("bring",), ["bring"], {}, 0, None):
                self.assertIs(is_deed(TRAIN, with_part(deed, 0, word)), False, (deed, word))

    def test_a_word_of_another_deed(self):
        pairs = [(deed, other[0]) for deed in DEEDS for other in DEEDS if deed[0] != other[0]]
        right = [(deed[0], word) for deed, word in pairs if is_deed(TRAIN, with_part(deed, 0, word))]
        # What a pool bears, two unlike numbers from 1 on, a spoil may bear too, and the other way round.
        self.assertEqual(right, [("pool", "spoil"), ("spoil", "pool")])

    def test_other_forms(self):
        for deed in DEEDS:
            things = [list(deed), deed + (1,), deed + ((1, 1),), deed[:-1], deed[1:], deed[:1], (deed,), [deed]]
            for thing in things + [dict(enumerate(deed)), deed + deed, str(deed)]:
                self.assertIs(is_deed(TRAIN, thing), False, thing)

    def test_whatever(self):
        for thing in WHATEVER:
            self.assertIs(is_deed(TRAIN, thing), False, thing)
            self.assertIs(is_deed(TRAIN, (thing, 0, 0, 1)), thing == "bring", thing)


FIRST = (0, 10, HALVES)
BRING = ("bring", 0, 0, 1)
THROW = ("throw", 0, 1, (1, 1, 1, 1))


class Books(unittest.TestCase):
    def test_right(self):
        for book in ((TRAIN, (), ()), (SMALL, (), ()), (TRAIN, (FIRST,), (BRING, THROW)), (TRAIN, (), tuple(DEEDS))):
            self.assertIs(is_book(book), True, book)

    def test_first_without_pieces(self):
        self.assertIs(is_book((TRAIN, ((0, 0, HALVES),), ())), False)
        self.assertIs(is_book((TRAIN, ((0, 1, HALVES),), ())), True)
        self.assertIs(is_book((TRAIN, (FIRST, (0, 0, HALVES)), ())), False)

    def test_four_and_five_first(self):
        self.assertIs(is_book((TRAIN, (FIRST,) * 4, ())), True)
        self.assertIs(is_book((TRAIN, (FIRST,) * 5, ())), False)

    def test_twenty_deeds_and_one_more(self):
        self.assertIs(is_book((TRAIN, (), (BRING,) * 20)), True)
        self.assertIs(is_book((TRAIN, (), (BRING,) * 21)), False)

    def test_three_throws_and_four(self):
        self.assertIs(is_book((TRAIN, (FIRST,), (THROW,) * 3)), True)
        self.assertIs(is_book((TRAIN, (FIRST,), (THROW,) * 4)), False)
        self.assertIs(is_book((TRAIN, (FIRST,), (THROW, BRING) * 3 + (BRING,) * 14)), True)
        self.assertIs(is_book((TRAIN, (FIRST,), (THROW, BRING) * 4)), False)

    def test_deeds_that_cannot_be_done(self):
        for deed in (("spoil", 0, 1), ("spoil", 10 ** 39, 10 ** 39), ("pool", 0, 1), ("swap", 0, 1, 0, 1), THROW):
            self.assertIs(is_book((TRAIN, (), (deed,))), True, deed)
        self.assertIs(is_book((TRAIN, (FIRST,), (("trade", 0, 0, 1, 1, 1),) * 2)), True)

    def test_one_place_otherwise(self):
        book = (TRAIN, (FIRST, FIRST), (BRING, THROW))
        wrong_trains = [with_part(TRAIN, at, thing) for at in range(6) for thing in NO_NUMBERS]
        wrong_loads = [with_part(FIRST, at, thing) for at in range(3) for thing in NO_NUMBERS] + [(3, 1, HALVES)]
        wrong_deeds = [with_part(BRING, at, thing) for at in range(4) for thing in NO_NUMBERS] + [("bring", 2, 0, 1)]
        for train in wrong_trains:
            self.assertIs(is_book(with_part(book, 0, train)), False, train)
        for load in wrong_loads:
            self.assertIs(is_book(with_part(book, 1, (load, FIRST))), False, load)
            self.assertIs(is_book(with_part(book, 1, (FIRST, load))), False, load)
        for deed in wrong_deeds:
            self.assertIs(is_book(with_part(book, 2, (deed, THROW))), False, deed)
            self.assertIs(is_book(with_part(book, 2, (BRING, deed))), False, deed)

    def test_another_train(self):
        book = (TRAIN, (FIRST,), (BRING,))
        self.assertIs(is_book(book), True)
        self.assertIs(is_book(with_part(book, 0, SMALL)), False)
        self.assertIs(is_book((SMALL, (), (BRING,))), True)
        self.assertIs(is_book((SMALL, (), (THROW,))), False)

    def test_lists(self):
        book = (TRAIN, (FIRST,), (BRING,))
        things = [list(book), (list(TRAIN), (FIRST,), (BRING,)), (TRAIN, [FIRST], (BRING,)), (TRAIN, (FIRST,), [BRING])]
        things += [(TRAIN, (list(FIRST),), (BRING,)), (TRAIN, (FIRST,), (list(BRING),)), (TRAIN, [], ()), (TRAIN, (), [])]
        for thing in things:
            self.assertIs(is_book(thing), False, thing)

    def test_a_place_more_or_less(self):
        book = (TRAIN, (FIRST,), (BRING,))
        for thing in (book + ((),), book[:2], book[1:], (book,), TRAIN, dict(enumerate(book))):
            self.assertIs(is_book(thing), False, thing)

    def test_whatever(self):
        book = (TRAIN, (FIRST,), (BRING,))
        for thing in WHATEVER:
            self.assertIs(is_book(thing), False, thing)
            self.assertIs(is_book(with_part(book, 0, thing)), False, thing)
            self.assertIs(is_book(with_part(book, 1, (thing,))), False, thing)
            self.assertIs(is_book(with_part(book, 2, (thing,))), False, thing)
            if thing != ():
                self.assertIs(is_book(with_part(book, 1, thing)), False, thing)
                self.assertIs(is_book(with_part(book, 2, thing)), False, thing)


class Kept(unittest.TestCase):
    """[5]: nothing is changed, and the same asked again has the same answer."""

    def test_nothing_is_changed(self):
        things = WHATEVER + [(TRAIN, [FIRST], [BRING]), ([TRAIN], {1: [FIRST]}, [list(BRING)]), list(TRAIN)]
        kept = copy.deepcopy(things)
        for thing in things:
            asked = [(is_share(thing), is_train(thing), is_load(TRAIN, thing), is_deed(TRAIN, thing), is_book(thing))]
            asked += [(is_share(thing), is_train(thing), is_load(TRAIN, thing), is_deed(TRAIN, thing), is_book(thing))]
            self.assertEqual(asked[0], asked[1])
        self.assertEqual(things, kept)


if __name__ == "__main__":
    unittest.main()
