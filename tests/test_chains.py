"""[2], [5], [7], [41], [42], [43]: what loads are made of, their origins and chains, and what comes home of roots."""

import copy
import unittest
from fractions import Fraction

from sharetrail.books import first_wrong, is_book
from sharetrail.chains import come_home, first_chain, is_chain, made_of, many_chains, origins_of, reached
from sharetrail.errors import NoLoad
from sharetrail.stops import stock_by
from things import BOOKS, HALVES, MIXED, NO_NUMBERS, TRAIN, WHATEVER, WORTHS, amount, fraction, held_behind, other_books

MAKERS = ("bring", "pool", "swap", "trade")
FIRST = ((0, 10, HALVES), (0, 5, HALVES), (1, 6, HALVES))


def book_of(*deeds):
    return (TRAIN, FIRST, deeds)


def sources_of(book):
    """Of each load by number the loads that it is made of, and the pieces that these had."""
    held = [load[:2] for load in book[1]]
    sources = [{} for _ in held]
    for deed in book[2]:
        if deed[0] in MAKERS:
            loads = {"bring": (), "pool": deed[1:3], "swap": deed[1:2], "trade": deed[2:3]}[deed[0]]
            sources.append({load: held[load][1] for load in sorted(loads)})
        held = held_behind(held, deed)
    return sources


def chains_of(sources, load):
    """All chains of a load, gone through one by one, each with its part of the load."""
    if not sources[load]:
        return {(load,): Fraction(1)}
    chains = {}
    for source, pieces in sources[load].items():
        for chain, part in chains_of(sources, source).items():
            chains[chain + (load,)] = part * Fraction(pieces, sum(sources[load].values()))
    return chains


# Pool behind pool, each with what was swapped there and back of the one ahead: 2 chains, 4, 8, 16, 32, 64.
LADDER = (
    TRAIN,
    ((0, 10, HALVES),),
    (
        ("swap", 0, 1, 1, 9), ("swap", 1, 1, 0, 9), ("pool", 0, 2),
        ("swap", 3, 1, 1, 9), ("swap", 4, 1, 0, 9), ("pool", 3, 5),
        ("swap", 6, 1, 1, 9), ("swap", 7, 1, 0, 9), ("pool", 8, 6),
        ("swap", 9, 1, 1, 9), ("swap", 10, 1, 0, 9), ("pool", 9, 11),
        ("swap", 12, 1, 1, 9), ("swap", 13, 1, 0, 9), ("pool", 14, 12),
        ("swap", 15, 1, 1, 9), ("swap", 16, 1, 0, 9), ("pool", 15, 17),
    ),
)
ALL_BOOKS = BOOKS + [MIXED, LADDER] + other_books(MIXED)


class Books(unittest.TestCase):
    def test_they_are_books_whose_deeds_can_be_done(self):
        for book in ALL_BOOKS:
            self.assertTrue(is_book(book) and first_wrong(book) is None, book)


class MadeOf(unittest.TestCase):
    def test_all_loads(self):
        for book in ALL_BOOKS:
            for load, sources in enumerate(sources_of(book)):
                self.assertEqual(made_of(book, load), list(sources), (book, load))

    def test_by_hand(self):
        told = [made_of(MIXED, load) for load in range(10)]
        self.assertEqual(told, [[], [], [], [], [0, 3], [4], [5], [4, 6], [1, 7], []])

    def test_in_order_of_their_numbers(self):
        for pool in (("pool", 0, 1), ("pool", 1, 0)):
            self.assertEqual(made_of(book_of(pool), 3), [0, 1])
        self.assertEqual(made_of(book_of(("pool", 1, 0), ("bring", 0, 0, 1), ("pool", 4, 3)), 5), [3, 4])

    def test_a_trade_is_made_of_the_load_not_of_its_number(self):
        self.assertEqual(made_of(book_of(("trade", 0, 2, 1, 0, 1)), 3), [2])
        self.assertEqual(made_of(book_of(("trade", 9, 1, 1, 1, 1)), 3), [1])


class Origins(unittest.TestCase):
    def test_all_loads(self):
        for book in ALL_BOOKS:
            sources = sources_of(book)
            for load in range(len(sources)):
                shares = {}
                for chain, part in chains_of(sources, load).items():
                    shares[chain[0]] = shares.get(chain[0], 0) + part
                told = [(root, amount(shares[root])) for root in sorted(shares)]
                self.assertEqual(origins_of(book, load), told, (book, load))

    def test_rising_above_nothing_and_a_whole(self):
        for book in ALL_BOOKS:
            for load in range(len(sources_of(book))):
                origins = origins_of(book, load)
                roots = [root for root, share in origins]
                self.assertEqual(roots, sorted(set(roots)))
                self.assertTrue(all(fraction(share) > 0 for root, share in origins))
                self.assertTrue(all(made_of(book, root) == [] for root in roots))
                self.assertEqual(sum(fraction(share) for root, share in origins), 1)

    def test_roots(self):
        book = book_of(("bring", 1, 2, 3))
        for root in range(4):
            self.assertEqual(origins_of(book, root), [(root, (1, 1))])

    def test_a_pool_by_the_pieces_that_they_had(self):
        self.assertEqual(origins_of(book_of(("pool", 1, 0)), 3), [(0, (2, 3)), (1, (1, 3))])
        self.assertEqual(origins_of(book_of(("spoil", 0, 7), ("pool", 0, 1)), 3), [(0, (3, 8)), (1, (5, 8))])
        # Not by those that they have once the pool is done, or later.
        self.assertEqual(origins_of(book_of(("pool", 1, 0), ("spoil", 3, 14)), 3), [(0, (2, 3)), (1, (1, 3))])

    def test_a_pool_of_pools(self):
        book = book_of(("pool", 0, 1), ("swap", 3, 6, 1, 3), ("pool", 2, 4), ("bring", 0, 0, 1), ("pool", 3, 6))
        self.assertEqual(origins_of(book, 4), [(0, (2, 3)), (1, (1, 3))])
        self.assertEqual(origins_of(book, 5), [(0, (2, 9)), (1, (1, 9)), (2, (2, 3))])
        self.assertEqual(origins_of(book, 7), [(0, (3, 5)), (1, (3, 10)), (6, (1, 10))])

    def test_selling_and_throwing_change_none(self):
        plain = book_of(("pool", 0, 1), ("bring", 1, 0, 5), ("pool", 3, 4))
        deeds = (("sell", 0, 1, (1, 2)), ("pool", 0, 1), ("throw", 2, 6, WORTHS), ("bring", 1, 0, 5), ("pool", 3, 4))
        for load in range(6):
            self.assertEqual(origins_of(book_of(*deeds), load), origins_of(plain, load))


class Chains(unittest.TestCase):
    def test_all_chains_of_all_loads(self):
        for book in ALL_BOOKS:
            sources = sources_of(book)
            for load in range(len(sources)):
                chains = chains_of(sources, load)
                self.assertEqual(many_chains(book, load), len(chains), (book, load))
                self.assertEqual(first_chain(book, load), min(chains), (book, load))
                for chain in chains:
                    self.assertIs(is_chain(book, load, chain), True, (book, load, chain))

    def test_chains_with_one_place_otherwise(self):
        for book in BOOKS[:25] + [MIXED]:
            sources = sources_of(book)
            for load in range(len(sources)):
                chains = chains_of(sources, load)
                for chain in list(chains)[:4]:
                    for at in range(len(chain)):
                        others = list(range(-1, len(sources) + 1)) + [10 ** 39, None, str(chain[at]), (chain[at],)]
                        for other in others:
                            thing = chain[:at] + (other,) + chain[at + 1:]
                            self.assertIs(is_chain(book, load, thing), thing in chains, (book, load, thing))

    def test_cut_and_lengthened(self):
        for book in BOOKS[:40] + [MIXED]:
            sources = sources_of(book)
            for load in range(len(sources)):
                chains = chains_of(sources, load)
                for chain in list(chains)[:4]:
                    things = [chain[:at] for at in range(len(chain))] + [chain[at:] for at in range(1, len(chain))]
                    things += [chain[:at] + chain[at + 1:] for at in range(len(chain))]
                    things += [chain[:at + 1] + chain[at:] for at in range(len(chain))]
                    things += [chain + chain, chain + (load,), (0,) + chain, chain + (len(sources),)]
                    for thing in things:
                        self.assertIs(is_chain(book, load, thing), thing in chains, (book, load, thing))

    def test_turned_about(self):
        for chain in chains_of(sources_of(MIXED), 8):
            self.assertIs(is_chain(MIXED, 8, chain[::-1]), False)
            self.assertIs(is_chain(MIXED, chain[0], chain[::-1]), len(chain) == 1)

    def test_begun_at_no_root(self):
        self.assertIs(is_chain(MIXED, 7, (0, 4, 7)), True)
        self.assertIs(is_chain(MIXED, 7, (4, 7)), False)
        self.assertIs(is_chain(MIXED, 7, (7,)), False)
        self.assertIs(is_chain(MIXED, 3, (3,)), True)

    def test_of_another_load(self):
        sources = sources_of(MIXED)
        for load in range(len(sources)):
            for other in range(len(sources)):
                for chain in chains_of(sources, other):
                    self.assertIs(is_chain(MIXED, load, chain), load == other)

    def test_places_from_the_end(self):
        # -4 would be load 6 of ten, and 0 and 3 come by it.
        self.assertIs(is_chain(MIXED, 7, (0, 4, 5, 6, 7)), True)
        self.assertIs(is_chain(MIXED, 7, (0, 4, 5, -4, 7)), False)
        self.assertIs(is_chain(MIXED, 7, (-10, 4, 7)), False)

    def test_lists(self):
        for load in range(10):
            chain = first_chain(MIXED, load)
            singles = tuple((number,) for number in chain)
            for thing in (list(chain), [chain], (chain,), dict.fromkeys(chain), str(chain), singles):
                self.assertIs(is_chain(MIXED, load, thing), False, thing)

    def test_truths(self):
        for book, load, chain in ((MIXED, 8, (1, 8)), (MIXED, 1, (1,)), (MIXED, 4, (0, 4)), (MIXED, 0, (0,))):
            self.assertIs(is_chain(book, load, chain), True)
            self.assertIs(is_chain(book, load, (bool(chain[0]),) + chain[1:]), False)
        self.assertIs(is_chain(LADDER, 2, (0, 1, 2)), True)
        self.assertIs(is_chain(LADDER, 2, (0, True, 2)), False)

    def test_whatever(self):
        for load in range(10):
            chain = first_chain(MIXED, load)
            for thing in WHATEVER + NO_NUMBERS + [tuple(range(10)), chain * 900, (load,) * 9000]:
                if thing != chain:
                    self.assertIs(is_chain(MIXED, load, thing), False, thing)
                if isinstance(thing, bool) or thing not in range(10):
                    self.assertIs(is_chain(MIXED, load, chain[:-1] + (thing,)), False, thing)
                    self.assertIs(is_chain(MIXED, load, (thing,) + chain[1:]), False, thing)


class FirstChain(unittest.TestCase):
    def test_held_against_one_another_with_the_load_at_their_end(self):
        # (0,) is below (0, 1, 2), but (0, 3) is above (0, 1, 2, 3).
        self.assertEqual(first_chain(LADDER, 3), (0, 1, 2, 3))
        self.assertEqual(first_chain(LADDER, 6), (0, 1, 2, 3, 4, 5, 6))
        self.assertEqual(first_chain(LADDER, 18), tuple(range(19)))

    def test_by_the_least_root(self):
        book = book_of(("bring", 0, 0, 4), ("pool", 1, 3), ("pool", 4, 0))
        self.assertEqual(first_chain(book, 4), (1, 4))
        self.assertEqual(first_chain(book, 5), (0, 5))
        book = book_of(("swap", 0, 1, 1, 1), ("swap", 3, 1, 0, 1), ("pool", 4, 1))
        self.assertEqual(first_chain(book, 5), (0, 3, 4, 5))

    def test_roots(self):
        self.assertEqual([first_chain(MIXED, root) for root in (0, 1, 2, 3, 9)], [(0,), (1,), (2,), (3,), (9,)])
        self.assertIs(type(first_chain(MIXED, 8)), tuple)


class ManyChains(unittest.TestCase):
    def test_pool_behind_pool(self):
        told = [many_chains(LADDER, load) for load in (0, 2, 3, 6, 9, 12, 15, 18)]
        self.assertEqual(told, [1, 1, 2, 4, 8, 16, 32, 64])

    def test_without_going_through_them_all(self):
        # Somewhat beyond twenty deeds: far more chains than could be gone through.
        deeds = []
        for at in range(0, 300, 3):
            deeds += [("swap", at, 1, 1, 9), ("swap", at + 1, 1, 0, 9), ("pool", at, at + 2)]
        book = (TRAIN, ((0, 10, HALVES),), tuple(deeds))
        self.assertEqual(many_chains(book, 300), 2 ** 100)
        self.assertEqual(first_chain(book, 300), tuple(range(301)))
        self.assertIs(is_chain(book, 300, tuple(range(0, 301, 3))), True)
        self.assertEqual(reached(book, 0), list(range(301)))

    def test_roots(self):
        for root in (0, 1, 2, 3, 9):
            self.assertEqual(many_chains(MIXED, root), 1)


class Reached(unittest.TestCase):
    def test_of_each_root_and_of_no_root(self):
        for book in ALL_BOOKS:
            sources = sources_of(book)
            for load in range(len(sources)):
                if sources[load]:
                    with self.assertRaises(NoLoad):
                        reached(book, load)
                else:
                    loads = [other for other in range(len(sources)) if load in dict(origins_of(book, other))]
                    self.assertEqual(reached(book, load), loads, (book, load))

    def test_by_hand(self):
        told = [reached(MIXED, root) for root in (0, 1, 2, 3, 9)]
        self.assertEqual(told, [[0, 4, 5, 6, 7, 8], [1, 8], [2], [3, 4, 5, 6, 7, 8], [9]])


class ComeHome(unittest.TestCase):
    def test_all_books(self):
        for book in ALL_BOOKS:
            sources, held = sources_of(book), [load[:2] for load in book[1]]
            for deed in book[2]:
                held = held_behind(held, deed)
            sums = {root: [Fraction(0)] * book[0][1] for root in range(len(sources)) if not sources[root]}
            for load, (kind, pieces) in enumerate(held):
                for chain, part in chains_of(sources, load).items():
                    sums[chain[0]][kind] += pieces * part
            told = [(root, tuple(map(amount, sums[root]))) for root in sorted(sums)]
            self.assertEqual(come_home(book), told, book)

    def test_all_roots_together_are_the_stock(self):
        for book in ALL_BOOKS:
            kinds = range(book[0][1])
            together = [sum(fraction(amounts[kind]) for root, amounts in come_home(book)) for kind in kinds]
            self.assertEqual(tuple(together), stock_by(book, len(book[2])))

    def test_by_hand(self):
        book = book_of(("pool", 0, 1), ("swap", 3, 6, 2, 4), ("spoil", 3, 3))
        self.assertEqual(
            come_home(book),
            [(0, ((4, 1), (0, 1), (8, 3))), (1, ((2, 1), (0, 1), (4, 3))), (2, ((0, 1), (6, 1), (0, 1)))],
        )

    def test_roots_of_which_nothing_is_left(self):
        book = book_of(("spoil", 2, 6), ("bring", 0, 1, 2), ("throw", 3, 2, WORTHS))
        self.assertEqual([root for root, amounts in come_home(book)], [0, 1, 2, 3])
        self.assertEqual(come_home(book)[2:], [(2, ((0, 1),) * 3), (3, ((0, 1),) * 3)])

    def test_no_roots(self):
        self.assertEqual(come_home((TRAIN, (), ())), [])


class Kept(unittest.TestCase):
    """[5]: told lists are the asker's own, and books asked by turns don't change one another's answers."""

    def all_told(self, book):
        loads = range(len(sources_of(book)))
        roots = [load for load in loads if made_of(book, load) == []]
        told = [come_home(book)] + [reached(book, root) for root in roots]
        for load in loads:
            told += [made_of(book, load), origins_of(book, load)]
        return told

    def test_told_lists_that_are_changed(self):
        for book in BOOKS[:40] + [MIXED, LADDER]:
            kept = copy.deepcopy(self.all_told(book))
            told = self.all_told(book)
            for one in told:
                self.assertIs(type(one), list)
                one.reverse()
                one.append(None)
                one[0] = 99
            self.assertEqual(self.all_told(book), kept)

    def test_books_by_turns(self):
        books = [MIXED] + other_books(MIXED)
        alone = [self.all_told(book) for book in books]
        for other in range(1, len(books)):
            for at in (0, other, 0, other):
                self.assertEqual(self.all_told(books[at]), alone[at])


if __name__ == "__main__":
    unittest.main()
