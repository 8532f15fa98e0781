"""[5], [6], [101], [102]: Leaders, what they do and undo, their starts and their twins."""

import copy
import random
import unittest

from sharetrail.books import first_wrong, is_book, is_deed, is_load, is_train, made_by
from sharetrail.errors import NoDeed, NoFirst, NoNext, NoPartner, NotDone, NothingDone, NoTrain, TooMany, TrailError
from sharetrail.home import next_book, stays_over
from sharetrail.leaders import Leader
from sharetrail.loads import theirs_by
from things import BOOKS, HALVES, MIXED, NO_NUMBERS, TRAIN, WHATEVER, WORTHS, deed_at_random, held_behind, other_books
from things import with_part

ALL_BOOKS = BOOKS + [MIXED] + other_books(MIXED)
FIRST = ((0, 10, ((1, 3), (2, 3))), (1, 6, HALVES))


def leader_of(book):
    """A Leader that did the deeds of the book."""
    leader = Leader(book[0], book[1])
    for deed in book[2]:
        leader.do(deed)
    return leader


def books_back(leader):
    """The books that undoing goes back to, asked of a twin."""
    twin = leader.twin()
    books = [twin.book()]
    while True:
        try:
            twin.undo()
        except NothingDone:
            return books
        books.append(twin.book())


class Refusing(unittest.TestCase):
    def refused(self, error, deed, *things):
        with self.assertRaises(error) as taken:
            deed(*things)
        self.assertIs(type(taken.exception), error, things)
        return taken.exception

    def refused_and_kept(self, leader, error, deed, *things):
        """Refused, and behind it the book and what can be undone are as they were."""
        books = books_back(leader)
        told = self.refused(error, deed, *things)
        self.assertEqual(books_back(leader), books)
        return told


class Making(Refusing):
    def test_right(self):
        for book in ALL_BOOKS:
            leader = Leader(book[0], book[1])
            self.assertEqual(leader.book(), (book[0], book[1], ()))
            self.refused(NothingDone, leader.undo)
        self.assertEqual(Leader(TRAIN, ()).book(), (TRAIN, (), ()))
        self.assertEqual(Leader(TRAIN, FIRST * 2).book(), (TRAIN, FIRST * 2, ()))

    def test_no_train(self):
        wrong = list(WHATEVER)
        for at in range(6):
            for thing in WHATEVER + NO_NUMBERS + [0, 5, 6, 10, 21, ((1, 2), (1, 3)), ((1, 1),), ((2, 4), (2, 4))]:
                wrong.append(with_part(TRAIN, at, thing))
        wrong = [thing for thing in wrong + [list(TRAIN), TRAIN[:5], TRAIN + (0,)] if not is_train(thing)]
        self.assertGreater(len(wrong), 400)
        for thing in wrong:
            for first in ((), FIRST, None, [FIRST]):
                self.refused(NoTrain, Leader, thing, first)

    def test_no_first(self):
        load = FIRST[0]
        wrong = [[], [load], list(FIRST), load, (load,) * 5, ((0, 0, HALVES),), FIRST + ((2, 0, HALVES),), FIRST + ([],)]
        changed = [with_part(load, at, thing) for at in range(3) for thing in WHATEVER + NO_NUMBERS]
        wrong += [(thing,) for thing in changed if not is_load(TRAIN, thing) or thing[1] == 0]
        wrong += [((3, 1, HALVES),), ((0, 1, ((1, 2), (1, 3))),), ((0, 1, ((1, 1),)),), ((0, 1, list(HALVES)),)]
        wrong += [(list(load),), (load + (0,),), (load[:2],)]
        wrong += [thing for thing in WHATEVER if thing != ()]
        for thing in wrong:
            self.refused(NoFirst, Leader, TRAIN, thing)


class Doing(Refusing):
    def test_each_deed_and_the_load_that_it_makes(self):
        for book in ALL_BOOKS:
            leader = Leader(book[0], book[1])
            for place, deed in enumerate(book[2]):
                told = leader.do(deed)
                self.assertEqual(told, made_by(book, place))
                self.assertIs(type(told), type(made_by(book, place)))
                self.assertEqual(leader.book(), (book[0], book[1], book[2][:place + 1]))
                for partner in range(book[0][0]):
                    self.assertEqual(leader.theirs(partner), theirs_by(book, place + 1, partner))

    def test_no_deed(self):
        leader = leader_of(MIXED)
        wrong = WHATEVER + NO_NUMBERS
        for deed in MIXED[2]:
            wrong = wrong + [list(deed), deed[:-1], deed + (0,), deed[1:], (deed,), with_part(deed, 0, "bear")]
            wrong += [with_part(deed, at, thing) for at in range(len(deed)) for thing in WHATEVER[:20] + NO_NUMBERS]
        wrong += [("pool", 1, 1), ("sell", 0, 0, (1, 2)), ("sell", 0, 1, (1, 13)), ("sell", 0, 1, (0, 1))]
        wrong += [("trade", 10, 8, 1, 1, 1), ("bring", 2, 0, 1), ("bring", 0, 3, 1), ("throw", 8, 1, (1, 1, 1))]
        books = books_back(leader)
        many = 0
        for thing in wrong:
            if not is_deed(TRAIN, thing):
                self.refused(NoDeed, leader.do, thing)
                many += 1
        self.assertEqual(books_back(leader), books)
        self.assertGreater(many, 1000)

    def test_not_done(self):
        leader = Leader(*MIXED[:2])
        for place, deed in enumerate(MIXED[2]):
            for wrong in (("spoil", 99, 1), ("pool", 0, 2), ("swap", 0, 1, 0, 1), ("throw", 1, 5, WORTHS)):
                self.assertEqual(self.refused_and_kept(leader, NotDone, leader.do, wrong).at, place)
            leader.do(deed)
        self.assertEqual(self.refused(NotDone, leader.do, ("trade", 7, 8, 1, 1, 1)).at, 13)

    def test_the_twenty_first_deed(self):
        leader = Leader(TRAIN, FIRST)
        for many in range(20):
            self.assertEqual(leader.do(("bring", 0, 0, 1)), 2 + many)
        for deed in (("bring", 0, 0, 1), ("sell", 0, 1, (1, 2)), ("throw", 0, 1, WORTHS), ("pool", 0, 2)):
            self.refused_and_kept(leader, TooMany, leader.do, deed)
        self.assertEqual(self.refused_and_kept(leader, NotDone, leader.do, ("spoil", 22, 1)).at, 20)
        self.refused_and_kept(leader, NoDeed, leader.do, ("bring", 2, 0, 1))
        leader.undo()
        self.assertIsNone(leader.do(("sell", 0, 1, (1, 2))))
        self.refused_and_kept(leader, TooMany, leader.do, ("bring", 0, 0, 1))

    def test_the_fourth_throw(self):
        leader = Leader(TRAIN, FIRST)
        throw = ("throw", 0, 1, WORTHS)
        for _ in range(3):
            self.assertIsNone(leader.do(throw))
        self.refused_and_kept(leader, TooMany, leader.do, throw)
        self.assertEqual(self.refused_and_kept(leader, NotDone, leader.do, ("throw", 0, 8, WORTHS)).at, 3)
        self.refused_and_kept(leader, NoDeed, leader.do, ("throw", 0, 1, WORTHS[1:]))
        self.assertIsNone(leader.do(("spoil", 0, 1)))
        leader.undo()
        leader.undo()
        self.assertIsNone(leader.do(throw))
        leader.start()
        self.assertIsNone(leader.do(("throw", 0, 1, WORTHS)))


class Undoing(Refusing):
    def test_the_last_first_until_nothing_is_left(self):
        for book in ALL_BOOKS:
            leader = leader_of(book)
            for many in range(len(book[2]), -1, -1):
                self.assertEqual(leader.book(), (book[0], book[1], book[2][:many]))
                if many > 0:
                    self.assertIsNone(leader.undo())
            self.refused(NothingDone, leader.undo)
            self.assertEqual(leader.book(), (book[0], book[1], ()))

    def test_another_deed_behind_an_undoing(self):
        leader = Leader(TRAIN, FIRST)
        self.assertEqual(leader.do(("bring", 0, 0, 1)), 2)
        leader.undo()
        self.assertEqual(leader.do(("bring", 1, 2, 5)), 2)
        self.assertEqual(leader.book()[2], (("bring", 1, 2, 5),))
        leader.undo()
        self.refused(NothingDone, leader.undo)

    def test_what_was_refused_is_not_undone(self):
        leader = Leader(TRAIN, FIRST)
        leader.do(("bring", 0, 0, 1))
        for deed in (("spoil", 9, 1), None):
            with self.assertRaises(TrailError):
                leader.do(deed)
        leader.undo()
        self.refused(NothingDone, leader.undo)


class Starting(Refusing):
    def test_the_next_book(self):
        started = 0
        for book in ALL_BOOKS:
            leader = leader_of(book)
            if len(book[2]) == 0:
                self.refused_and_kept(leader, NoNext, leader.start)
            elif len(stays_over(book)) > 4:
                self.refused_and_kept(leader, TooMany, leader.start)
            else:
                started += 1
                self.assertIsNone(leader.start())
                self.assertEqual(leader.book(), next_book(book))
                self.refused_and_kept(leader, NoNext, leader.start)
                leader.undo()
                self.assertEqual(leader.book(), book)
                self.assertEqual(len(books_back(leader)), len(book[2]) + 1)
        self.assertGreater(started, 30)

    def test_no_next_ahead_of_too_many(self):
        # Four loads stay over; the fifth is brought, and not whole by the hire of the holders.
        leader = Leader((2, 1, 1, HALVES, 5, 0), ((0, 1, HALVES),) * 4)
        self.refused_and_kept(leader, NoNext, leader.start)
        leader.do(("bring", 0, 0, 1))
        self.refused_and_kept(leader, TooMany, leader.start)
        leader.undo()
        self.refused_and_kept(leader, NoNext, leader.start)
        leader.do(("sell", 0, 1, (1, 2)))
        leader.start()
        self.assertEqual(len(leader.book()[1]), 4)

    def test_several_trains_one_behind_the_other(self):
        leader = Leader(TRAIN, FIRST)
        books = [leader.book()]
        for turn in range(4):
            for deed in (("bring", turn & 1, 2, 10 + turn), ("sell", 1, 0, (1, 3)), ("throw", 0, 1, WORTHS)):
                leader.do(deed)
                books.append(leader.book())
            leader.start()
            self.assertEqual(leader.book(), next_book(books[-1]))
            self.assertTrue(is_book(leader.book()))
            books.append(leader.book())
        self.assertEqual(books_back(leader), books[::-1])
        for book in books[-2::-1]:
            leader.undo()
            self.assertEqual(leader.book(), book)
        self.refused(NothingDone, leader.undo)

    def test_what_stays_over_can_be_used(self):
        leader = Leader((2, 2, 1, HALVES, 0, 0), ((0, 3, HALVES),))
        leader.do(("sell", 0, 1, (1, 4)))
        leader.start()
        self.assertEqual(leader.book(), ((2, 2, 1, ((3, 8), (5, 8)), 0, 0), ((0, 1, ((1, 8), (7, 8))),), ()))
        self.assertEqual(leader.do(("swap", 0, 1, 1, 8)), 1)
        self.assertEqual(leader.theirs(0), ((0, 1), (1, 1)))
        self.assertEqual(self.refused(NotDone, leader.do, ("spoil", 0, 1)).at, 1)


class Theirs(Refusing):
    def test_no_partner(self):
        leader = leader_of(MIXED)
        others = [thing for thing in WHATEVER if isinstance(thing, bool) or thing not in (0, 1)]
        for thing in [2, 3, 4, -2] + NO_NUMBERS + others:
            self.refused(NoPartner, leader.theirs, thing)
        self.assertEqual(leader.book(), MIXED)

    def test_behind_undoing_and_starting(self):
        leader = leader_of(MIXED)
        leader.undo()
        self.assertEqual(leader.theirs(1), theirs_by(MIXED, 12, 1))
        leader.start()
        self.assertEqual(leader.theirs(1), theirs_by(leader.book(), 0, 1))


class Twins(Refusing):
    def test_a_twin_has_the_same(self):
        for book in ALL_BOOKS[:30] + [MIXED]:
            leader = leader_of(book)
            twin = leader.twin()
            self.assertIsInstance(twin, Leader)
            self.assertIsNot(twin, leader)
            self.assertEqual(twin.book(), book)
            while twin.book()[2]:
                twin.undo()
            self.refused(NothingDone, twin.undo)
            self.assertEqual(leader.book(), book)

    def test_neither_hangs_on_the_other(self):
        leader = leader_of(MIXED)
        twin = leader.twin()
        third = twin.twin()
        twin.undo()
        twin.undo()
        self.assertEqual((leader.book(), third.book()), (MIXED, MIXED))
        leader.do(("bring", 0, 0, 1))
        third.start()
        self.assertEqual(twin.book()[2], MIXED[2][:-2])
        self.assertEqual(leader.book()[2], MIXED[2] + (("bring", 0, 0, 1),))
        self.assertEqual(third.book(), next_book(MIXED))
        third.undo()
        self.assertEqual(third.book(), MIXED)
        twin.do(("sell", 0, 1, (1, 2)))
        leader.undo()
        leader.undo()
        self.assertEqual(leader.book()[2], MIXED[2][:-1])
        self.assertEqual(twin.book()[2], MIXED[2][:-2] + (("sell", 0, 1, (1, 2)),))

    def test_starts_are_undone_by_twins_too(self):
        leader = leader_of(MIXED)
        leader.start()
        leader.do(("bring", 0, 0, 1))
        twin = leader.twin()
        leader.undo()
        for book in books_back(leader):
            twin.undo()
            self.assertEqual(twin.book(), book)


class ByTurns(unittest.TestCase):
    """Several Leaders and their twins, with right and wrong deeds by turns, held against lists of books."""

    def refusal_of(self, books, asked):
        """The class that is to be refused with, and the book behind else."""
        book = books[-1]
        if asked == "undo":
            return NothingDone if len(books) == 1 else None
        if asked == "start":
            over = next_over(book)
            return NoNext if not book[2] else TooMany if over else None
        if not is_deed(book[0], asked):
            return NoDeed
        longer = book[:2] + (book[2] + (asked,),)
        if first_wrong(longer) is not None:
            return NotDone
        throws = [deed for deed in longer[2] if deed[0] == "throw"]
        return TooMany if len(longer[2]) > 20 or len(throws) > 3 else None

    def step(self, leader, books, asked):
        error = self.refusal_of(books, asked)
        calls = {"undo": leader.undo, "start": leader.start}
        call = calls[asked] if isinstance(asked, str) else lambda: leader.do(asked)
        if error is not None:
            with self.assertRaises(error) as taken:
                call()
            self.assertIs(type(taken.exception), error)
        else:
            call()
            if asked == "undo":
                books.pop()
            elif asked == "start":
                books.append(next_book(books[-1]))
            else:
                books.append(books[-1][:2] + (books[-1][2] + (asked,),))
        self.assertEqual(leader.book(), books[-1])
        return error

    def test_many_steps(self):
        chance = random.Random(11)
        seen = set()
        for _ in range(12):
            kept = [(Leader(book[0], book[1]), [book[:2] + ((),)]) for book in chance.sample(ALL_BOOKS, 3)]
            for _ in range(150):
                leader, books = chance.choice(kept)
                if chance.random() < 0.03 and len(kept) < 8:
                    kept.append((leader.twin(), list(books)))
                    continue
                seen.add(self.step(leader, books, asked_at_random(chance, books[-1])))
            for leader, books in kept:
                self.assertEqual(books_back(leader), books[::-1])
        self.assertEqual(seen, {None, NoDeed, NotDone, TooMany, NoNext, NothingDone})


def next_over(book):
    return len(stays_over(book)) > 4


def asked_at_random(chance, book):
    word = chance.choice(["undo", "start", "wrong", "none"] + ["bring", "pool", "swap", "throw", "sell", "spoil"] * 3)
    if word in ("undo", "start"):
        return word
    if word == "wrong":
        return chance.choice([("spoil", 99, 1), ("pool", 0, 98)])
    held = [load[:2] for load in book[1]]
    for deed in book[2]:
        held = held_behind(held, deed)
    return None if word == "none" else deed_at_random(chance, book[0], held, word, 30)


class Kept(unittest.TestCase):
    def test_what_was_handed_in(self):
        things = copy.deepcopy(WHATEVER)
        leader = leader_of(MIXED)
        for thing in WHATEVER:
            for call in (leader.do, lambda thing: Leader(thing, ()), lambda thing: Leader(TRAIN, thing)):
                if thing != ():
                    with self.assertRaises(TrailError):
                        call(thing)
        self.assertEqual(WHATEVER, things)
        self.assertEqual(leader.book(), MIXED)

    def test_a_list_that_was_refused_and_is_changed_later(self):
        deed = ["bring", 0, 0, 1]
        leader = Leader(TRAIN, FIRST)
        with self.assertRaises(NoDeed):
            leader.do(deed)
        deed.clear()
        self.assertEqual(leader.book(), (TRAIN, FIRST, ()))


if __name__ == "__main__":
    unittest.main()
