"""[2], [5], [7], [21], [22], [23], [24]: the loads, the holders and what is each partner's behind so many deeds."""

import unittest
from fractions import Fraction

from sharetrail.books import are_owners, is_book, is_load
from sharetrail.loads import holders_by, loads_by, theirs_by
from things import BOOKS, HALVES, MIXED, TRAIN, WORTHS, amount, fraction, held_behind, other_books

FIRST = ((0, 10, ((1, 3), (2, 3))), (0, 5, ((1, 1), (0, 1))), (1, 6, ((1, 1), (0, 1))))
THREE = (3, 2, 2, ((1, 2), (1, 3), (1, 6)), 0, 0)
GREAT = 10 ** 35 + 7


def book_of(*deeds):
    book = (TRAIN, FIRST, deeds)
    assert is_book(book), book
    return book


def three_of(first, *deeds):
    book = (THREE, first, deeds)
    assert is_book(book), book
    return book


def changed_shares(train, held, owners, deed, shares):
    """The document's words on throws and sales, share by share."""
    if deed[0] == "throw":
        load, pieces, worths = deed[1:]
        all_of_it = sum(many * worths[kind] for kind, many in held) + train[2] * worths[train[1]]
        part = Fraction(pieces * worths[held[load][0]], all_of_it)
        return [share - share * part + part * owners[load][partner] for partner, share in enumerate(shares)]
    if deed[0] == "sell":
        passed = shares[deed[1]] * fraction(deed[3])
        signs = {deed[1]: -1, deed[2]: 1}
        return [share + signs.get(partner, 0) * passed for partner, share in enumerate(shares)]
    return shares


def new_shares(train, held, owners, deed):
    """The owners of the load that a deed makes, None where it makes none."""
    if deed[0] == "bring":
        return [Fraction(partner == deed[1]) for partner in range(train[0])]
    if deed[0] == "pool":
        one, two = held[deed[1]][1], held[deed[2]][1]
        pairs = zip(owners[deed[1]], owners[deed[2]])
        return [(share * one + other * two) / (one + two) for share, other in pairs]
    if deed[0] in ("swap", "trade"):
        return owners[deed[-4]]
    return None


def states(book):
    """The loads and holders at each number of deeds, reckoned anew."""
    train, first, deeds = book
    held = [load[:2] for load in first]
    owners = [[fraction(share) for share in load[2]] for load in first]
    holders = [fraction(share) for share in train[3]]
    told = []
    for deed in deeds + (None,):
        loads = [(kind, pieces, tuple(map(amount, shares))) for (kind, pieces), shares in zip(held, owners)]
        told.append((loads, tuple(map(amount, holders))))
        if deed is not None:
            made = new_shares(train, held, owners, deed)
            holders = changed_shares(train, held, owners, deed, holders)
            owners = [changed_shares(train, held, owners, deed, shares) for shares in owners]
            owners += [] if made is None else [made]
            held = held_behind(held, deed)
    return told


class AtEveryStop(unittest.TestCase):
    def test_loads_and_holders(self):
        for book in BOOKS + [MIXED] + other_books(MIXED):
            for many, (loads, holders) in enumerate(states(book)):
                self.assertEqual(loads_by(book, many), loads, (book, many))
                self.assertEqual(holders_by(book, many), holders, (book, many))

    def test_they_are_loads_and_shares_that_are_a_whole(self):
        without = 0
        for book in BOOKS + [MIXED]:
            for many in range(len(book[2]) + 1):
                loads = loads_by(book, many)
                self.assertIs(type(loads), list)
                for load in loads:
                    self.assertTrue(is_load(book[0], load), (book, many))
                    without += load[1] == 0
                self.assertTrue(are_owners(book[0][0], holders_by(book, many)), (book, many))
        self.assertGreater(without, 100)

    def test_theirs(self):
        for book in BOOKS + [MIXED]:
            partners, kinds = book[0][:2]
            for many, (loads, _) in enumerate(states(book)):
                for partner in range(partners):
                    sums = [Fraction(0)] * kinds
                    for kind, pieces, owners in loads:
                        sums[kind] += pieces * fraction(owners[partner])
                    self.assertEqual(theirs_by(book, many, partner), tuple(map(amount, sums)), (book, many, partner))

    def test_what_is_all_partners_is_what_is_there(self):
        for book in BOOKS + [MIXED]:
            partners, kinds = book[0][:2]
            for many in range(len(book[2]) + 1):
                there = [0] * kinds
                for kind, pieces, _ in loads_by(book, many):
                    there[kind] += pieces
                each = [theirs_by(book, many, partner) for partner in range(partners)]
                self.assertEqual([sum(fraction(theirs[kind]) for theirs in each) for kind in range(kinds)], there)

    def test_a_deed_changes_what_it_tells_alone(self):
        told = {"bring": 0, "pool": 2, "swap": 1, "trade": 1, "spoil": 1}
        for book in BOOKS + [MIXED]:
            for many, deed in enumerate(book[2]):
                ahead, behind = loads_by(book, many), loads_by(book, many + 1)
                where = [load for load in range(len(ahead)) if ahead[load] != behind[load]]
                pieces = [load for load in range(len(ahead)) if ahead[load][:2] != behind[load][:2]]
                made = int(deed[0] in ("bring", "pool", "swap", "trade"))
                self.assertEqual(len(behind), len(ahead) + made)
                if deed[0] in told:
                    self.assertEqual(len(where), told[deed[0]], (book, many))
                    self.assertEqual(holders_by(book, many), holders_by(book, many + 1))
                    self.assertEqual([load[2] for load in ahead], [load[2] for load in behind[:len(ahead)]])
                else:
                    self.assertEqual(pieces, [deed[1]] if deed[0] == "throw" else [], (book, many))


class Makers(unittest.TestCase):
    def test_nothing_done(self):
        self.assertEqual(loads_by(book_of(), 0), list(FIRST))
        self.assertEqual(loads_by((TRAIN, (), ()), 0), [])
        self.assertEqual(holders_by(book_of(), 0), HALVES)

    def test_bring(self):
        for partner, owners in ((0, ((1, 1), (0, 1))), (1, ((0, 1), (1, 1)))):
            book = book_of(("bring", partner, 2, 7))
            self.assertEqual(loads_by(book, 1), list(FIRST) + [(2, 7, owners)])

    def test_pool_in_either_order(self):
        # 10 thirds and 5 of 15 are 5 ninths.
        for pool in (("pool", 0, 1), ("pool", 1, 0)):
            self.assertEqual(
                loads_by(book_of(pool), 1),
                [(0, 0, FIRST[0][2]), (0, 0, FIRST[1][2]), FIRST[2], (0, 15, ((5, 9), (4, 9)))],
            )

    def test_pool_of_three_in_whichever_order(self):
        first = ((0, 3, ((1, 2), (1, 3), (1, 6))), (0, 7, ((0, 1), (2, 5), (3, 5))), (0, 2, ((1, 4), (3, 4), (0, 1))))
        for one, two, three in ((0, 1, 2), (1, 0, 2), (0, 2, 1), (2, 0, 1), (1, 2, 0), (2, 1, 0)):
            for pools in ((("pool", one, two), ("pool", 3, three)), (("pool", two, one), ("pool", three, 3))):
                # 3/2 and 2/4 are 2, 3/3 and 14/5 and 6/4 are 53/10, 3/6 and 21/5 are 47/10.
                self.assertEqual(loads_by(three_of(first, *pools), 2)[4], (0, 12, ((1, 6), (53, 120), (47, 120))))

    def test_swap_and_trade_of_a_part_and_of_all(self):
        for given in (1, 4, 10):
            for deed in (("swap", 0, given, 2, 9), ("trade", 3, 0, given, 2, 9)):
                behind = [(0, 10 - given, FIRST[0][2]), FIRST[1], FIRST[2], (2, 9, FIRST[0][2])]
                self.assertEqual(loads_by(book_of(deed), 1), behind)

    def test_spoil_of_a_part_and_of_all(self):
        for pieces in (1, 4, 10):
            behind = [(0, 10 - pieces, FIRST[0][2])] + list(FIRST[1:])
            self.assertEqual(loads_by(book_of(("spoil", 0, pieces)), 1), behind)


class Throws(unittest.TestCase):
    def test_a_part(self):
        # All is worth 15 + 12 + 20 = 47, three pieces of load 2 are worth 6.
        book = book_of(("throw", 2, 3, WORTHS))
        self.assertEqual(
            loads_by(book, 1),
            [
                (0, 10, ((59, 141), (82, 141))),
                (0, 5, ((1, 1), (0, 1))),
                (1, 3, ((1, 1), (0, 1))),
            ],
        )
        self.assertEqual(holders_by(book, 1), ((53, 94), (41, 94)))

    def test_all(self):
        book = book_of(("throw", 2, 6, WORTHS))
        # 12 of 47: partner 1 isn't among the owners, and bears that part.
        self.assertEqual([load[1] for load in loads_by(book, 1)], [10, 5, 0])
        self.assertEqual(loads_by(book, 1)[0][2], ((71, 141), (70, 141)))
        self.assertEqual(holders_by(book, 1), ((59, 94), (35, 94)))

    def test_owners_of_what_was_thrown_from_are_kept(self):
        for pieces in (1, 10):
            self.assertEqual(loads_by(book_of(("throw", 0, pieces, WORTHS)), 1)[0], (0, 10 - pieces, FIRST[0][2]))

    def test_loads_without_pieces_pass_too(self):
        book = book_of(("spoil", 0, 10), ("throw", 2, 3, WORTHS))
        # All is worth 5 + 12 + 20 = 37 then.
        self.assertEqual(loads_by(book, 2)[0], (0, 0, ((49, 111), (62, 111))))

    def test_what_is_brought_behind_does_not_pass(self):
        book = book_of(("throw", 2, 3, WORTHS), ("bring", 1, 0, 4))
        self.assertEqual(loads_by(book, 2)[3], (0, 4, ((0, 1), (1, 1))))

    def test_one_behind_another(self):
        deeds = (("throw", 0, 2, (7, 1, 1, 9)), ("throw", 1, 5, (1, 5, 5, 1)), ("throw", 2, 6, (2, 3, 4, 5)))
        book = book_of(*deeds)
        for many, (loads, holders) in enumerate(states(book)):
            self.assertEqual(loads_by(book, many), loads)
            self.assertEqual(holders_by(book, many), holders)
        first, second, third = [theirs_by(book, many, 1) for many in (1, 2, 3)]
        self.assertNotEqual(first, second)
        self.assertNotEqual(second, third)

    def test_each_throw_has_its_own_worths(self):
        dear, cheap = book_of(("throw", 2, 3, (1, 99, 1, 1))), book_of(("throw", 2, 3, (99, 1, 1, 99)))
        self.assertEqual(holders_by(dear, 1)[1], amount(Fraction(1, 2) * (1 - Fraction(297, 15 + 594 + 5))))
        self.assertEqual(holders_by(cheap, 1)[1], amount(Fraction(1, 2) * (1 - Fraction(3, 15 * 99 + 6 + 495))))


class Sales(unittest.TestCase):
    def test_a_part(self):
        book = book_of(("sell", 0, 1, (1, 4)))
        self.assertEqual([load[2] for load in loads_by(book, 1)], [((1, 4), (3, 4))] + [((3, 4), (1, 4))] * 2)
        self.assertEqual(holders_by(book, 1), ((3, 8), (5, 8)))

    def test_all(self):
        book = book_of(("sell", 0, 1, (1, 1)))
        self.assertEqual([load[2] for load in loads_by(book, 1)], [((0, 1), (1, 1))] * 3)
        self.assertEqual(holders_by(book, 1), ((0, 1), (1, 1)))
        self.assertEqual(theirs_by(book, 1, 0), ((0, 1),) * 3)

    def test_of_loads_without_pieces(self):
        book = book_of(("spoil", 0, 10), ("sell", 1, 0, (1, 2)))
        self.assertEqual(loads_by(book, 2)[0], (0, 0, ((2, 3), (1, 3))))

    def test_a_third_partner_keeps_theirs(self):
        book = three_of(((0, 9, ((1, 2), (1, 3), (1, 6))),), ("sell", 2, 0, (1, 3)))
        self.assertEqual(loads_by(book, 1), [(0, 9, ((5, 9), (1, 3), (1, 9)))])
        self.assertEqual(holders_by(book, 1), ((5, 9), (1, 3), (1, 9)))

    def test_the_same_in_two_parts(self):
        at_once = book_of(("sell", 0, 1, (2, 3)))
        in_two = book_of(("sell", 0, 1, (1, 3)), ("sell", 0, 1, (1, 2)))
        self.assertEqual(loads_by(at_once, 1), loads_by(in_two, 2))
        self.assertEqual(holders_by(at_once, 1), holders_by(in_two, 2))
        all_in_two = book_of(("sell", 0, 1, (5, 12)), ("sell", 0, 1, (1, 1)))
        self.assertEqual(loads_by(all_in_two, 2), loads_by(book_of(("sell", 0, 1, (1, 1))), 1))

    def test_nothing_that_is_brought_later(self):
        book = book_of(("sell", 0, 1, (1, 1)), ("bring", 0, 2, 7))
        self.assertEqual(loads_by(book, 2)[3], (2, 7, ((1, 1), (0, 1))))
        self.assertEqual([theirs_by(book, 2, partner)[2] for partner in (0, 1)], [(7, 1), (0, 1)])

    def test_all_that_comes_of_it(self):
        book = book_of(("sell", 0, 1, (1, 4)), ("swap", 0, 10, 2, 8))
        self.assertEqual([theirs_by(book, 2, partner)[2] for partner in (0, 1)], [(2, 1), (6, 1)])


class GreatNumbers(unittest.TestCase):
    def test_pieces_of_thirty_figures_and_more(self):
        first = ((0, GREAT, ((1, 3), (2, 3), (0, 1))), (0, GREAT + 1, ((0, 1), (1, 2), (1, 2))))
        book = three_of(
            first, ("pool", 0, 1), ("throw", 2, GREAT, (3, 5, 7)), ("sell", 1, 0, (1, 7)), ("swap", 2, 1, 1, GREAT),
        )
        for many, (loads, holders) in enumerate(states(book)):
            self.assertEqual(loads_by(book, many), loads)
            self.assertEqual(holders_by(book, many), holders)
        self.assertEqual(loads_by(book, 1)[2][1], 2 * GREAT + 1)
        together = sum(fraction(theirs_by(book, 4, partner)[1]) for partner in range(3))
        self.assertEqual(together, GREAT)


class Theirs(unittest.TestCase):
    def test_by_kinds(self):
        # 10 thirds and 5 of kind 0, all of kind 1.
        self.assertEqual(theirs_by(book_of(), 0, 0), ((25, 3), (6, 1), (0, 1)))
        self.assertEqual(theirs_by(book_of(), 0, 1), ((20, 3), (0, 1), (0, 1)))

    def test_nothing_there(self):
        self.assertEqual(theirs_by((TRAIN, (), ()), 0, 1), ((0, 1),) * 3)


class Kept(unittest.TestCase):
    """[5]: told lists are the asker's own, and books asked by turns don't change one another's answers."""

    def test_a_told_list_that_is_changed(self):
        for book in BOOKS[:40] + [MIXED]:
            for many in range(len(book[2]) + 1):
                told = loads_by(book, many)
                kept = list(told)
                told.reverse()
                told.append((0, 1, HALVES))
                told[0] = None
                self.assertEqual(loads_by(book, many), kept)
                self.assertEqual(theirs_by(book, many, 0), theirs_by(book, many, 0))

    def test_books_by_turns(self):
        books = [MIXED] + other_books(MIXED)
        for asked in (loads_by, holders_by, lambda book, many: [theirs_by(book, many, partner) for partner in (0, 1)]):
            for many in range(13):
                alone = [asked(book, many) for book in books]
                for other in range(1, len(books)):
                    for at in (0, other, 0, other):
                        self.assertEqual(asked(books[at], many), alone[at])

    def test_the_other_books_differ(self):
        for other in other_books(MIXED):
            mine, theirs = [(loads_by(book, len(book[2])), holders_by(book, len(book[2]))) for book in (MIXED, other)]
            self.assertNotEqual(mine, theirs)


if __name__ == "__main__":
    unittest.main()
