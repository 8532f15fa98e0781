"""[5], [7], [31], [32]: the stock, the flows and the sheets of a book."""

import copy
import unittest

from sharetrail.loads import loads_by
from sharetrail.stops import flows_by, sheet_holds, stock_by
from things import BOOKS, HALVES, MIXED, TRAIN, WHATEVER, WORTHS, held_behind, other_books, with_part

OUT, GOT, GIVEN, SPOILT, THROWN, LEFT = range(6)
FIRST = ((0, 10, HALVES), (0, 5, HALVES), (1, 6, HALVES))
GREAT = 10 ** 39 + 3


def book_of(*deeds):
    return (TRAIN, FIRST, deeds)


def sheet_of(book):
    """The sheet, reckoned anew: each row from the one ahead by what the deed between does."""
    train, first, deeds = book
    held = [load[:2] for load in first]
    row = [[0] * 6 for _ in range(train[1])]
    for kind, pieces in held:
        row[kind][OUT] += pieces
        row[kind][LEFT] += pieces
    rows = [row]
    for deed in deeds:
        row = copy.deepcopy(row)
        if deed[0] == "bring":
            row[deed[2]][OUT] += deed[3]
            row[deed[2]][LEFT] += deed[3]
        elif deed[0] in ("swap", "trade"):
            load, given, kind, got = deed[-4:]
            row[held[load][0]][GIVEN] += given
            row[held[load][0]][LEFT] -= given
            row[kind][GOT] += got
            row[kind][LEFT] += got
        elif deed[0] in ("spoil", "throw"):
            row[held[deed[1]][0]][SPOILT if deed[0] == "spoil" else THROWN] += deed[2]
            row[held[deed[1]][0]][LEFT] -= deed[2]
        held = held_behind(held, deed)
        rows.append(row)
    return [tuple(tuple(flows) for flows in row) for row in rows]


def with_number(sheet, many, kind, flow, number):
    """The sheet with another number at one place."""
    rows = list(sheet)
    rows[many] = with_part(rows[many], kind, with_part(rows[many][kind], flow, number))
    return rows


class Flows(unittest.TestCase):
    def test_at_every_stop(self):
        for book in BOOKS + [MIXED] + other_books(MIXED):
            for many, row in enumerate(sheet_of(book)):
                self.assertEqual(flows_by(book, many), row, (book, many))
                self.assertEqual(stock_by(book, many), tuple(flows[LEFT] for flows in row), (book, many))

    def test_nothing_is_lost(self):
        for book in BOOKS + [MIXED]:
            for many in range(len(book[2]) + 1):
                for flows in flows_by(book, many):
                    out, got, given, spoilt, thrown, left = flows
                    self.assertEqual(out + got, given + spoilt + thrown + left, (book, many))

    def test_stock_is_what_the_loads_have(self):
        for book in BOOKS + [MIXED]:
            for many in range(len(book[2]) + 1):
                there = [0] * book[0][1]
                for kind, pieces, _ in loads_by(book, many):
                    there[kind] += pieces
                self.assertEqual(stock_by(book, many), tuple(there))

    def test_kinds(self):
        for many in range(len(MIXED[2]) + 1):
            stock, flows = stock_by(MIXED, many), flows_by(MIXED, many)
            self.assertEqual([type(stock), type(flows)] + [type(row) for row in flows], [tuple] * 5)
            self.assertEqual({type(number) for row in flows + (stock,) for number in row}, {int})

    def test_by_hand(self):
        nothing = (0, 0, 0, 0, 0, 0)
        at_first = ((15, 0, 0, 0, 0, 15), (6, 0, 0, 0, 0, 6), nothing)
        self.assertEqual(flows_by(book_of(), 0), at_first)
        self.assertEqual(flows_by((TRAIN, (), ()), 0), (nothing,) * 3)
        behind = {
            ("bring", 1, 2, 7): at_first[:2] + ((7, 0, 0, 0, 0, 7),),
            ("pool", 0, 1): at_first,
            ("swap", 0, 4, 2, 9): ((15, 0, 4, 0, 0, 11), at_first[1], (0, 9, 0, 0, 0, 9)),
            ("trade", 7, 2, 6, 0, 2): ((15, 2, 0, 0, 0, 17), (6, 0, 6, 0, 0, 0), nothing),
            ("spoil", 1, 5): ((15, 0, 0, 5, 0, 10),) + at_first[1:],
            ("throw", 2, 1, WORTHS): (at_first[0], (6, 0, 0, 0, 1, 5), nothing),
            ("sell", 0, 1, (1, 2)): at_first,
        }
        for deed, flows in behind.items():
            self.assertEqual(flows_by(book_of(deed), 0), at_first)
            self.assertEqual(flows_by(book_of(deed), 1), flows)
            self.assertEqual(stock_by(book_of(deed), 1), tuple(row[LEFT] for row in flows))

    def test_great_numbers(self):
        book = (TRAIN, ((0, GREAT, HALVES),), (("bring", 0, 0, GREAT), ("swap", 0, GREAT, 1, GREAT), ("spoil", 2, 1)))
        self.assertEqual(stock_by(book, 3), (GREAT, GREAT - 1, 0))
        self.assertEqual(flows_by(book, 3)[:2], ((2 * GREAT, 0, GREAT, 0, 0, GREAT), (0, GREAT, 0, 1, 0, GREAT - 1)))


class Sheets(unittest.TestCase):
    def wrong(self, sheet, book=MIXED):
        self.assertIs(sheet_holds(book, sheet), False, sheet)

    def test_right(self):
        for book in BOOKS + [MIXED]:
            self.assertIs(sheet_holds(book, sheet_of(book)), True, book)
            self.assertIs(sheet_holds(book, [flows_by(book, many) for many in range(len(book[2]) + 1)]), True)
        self.assertIs(sheet_holds((TRAIN, (), ()), [((0,) * 6,) * 3]), True)

    def test_one_number_otherwise(self):
        sheet = sheet_of(MIXED)
        for many, row in enumerate(sheet):
            for kind, flows in enumerate(row):
                for flow, number in enumerate(flows):
                    for other in (number + 1, number - 1, -number - 1, 10 ** 39, str(number), None, (number,)):
                        self.wrong(with_number(sheet, many, kind, flow, other))

    def test_one_number_kept_even_by_another(self):
        sheet = sheet_of(MIXED)
        pairs = [(OUT, 1, LEFT, 1), (OUT, 1, GOT, -1), (GOT, 1, GIVEN, 1), (SPOILT, 1, THROWN, -1)]
        pairs.append((THROWN, 1, LEFT, -1))
        for many in range(len(sheet)):
            for kind in range(3):
                for one, more, other, besides in pairs:
                    row = sheet[many][kind]
                    changed = with_number(sheet, many, kind, one, row[one] + more)
                    self.wrong(with_number(changed, many, kind, other, row[other] + besides))
                    # From one row on to the end, as if it came of a deed.
                    for later in range(many, len(sheet)):
                        changed = with_number(changed, later, kind, one, sheet[later][kind][one] + more)
                        changed = with_number(changed, later, kind, other, sheet[later][kind][other] + besides)
                    self.wrong(changed)

    def test_a_row_more_or_less_or_twice(self):
        sheet = sheet_of(MIXED)
        for many in range(len(sheet)):
            self.wrong(sheet[:many] + sheet[many + 1:])
            self.wrong(sheet[:many + 1] + sheet[many:])
            self.wrong(sheet[:many])
        self.wrong([((0,) * 6,) * 3] + sheet)
        self.wrong([])
        self.wrong([], (TRAIN, (), ()))

    def test_two_rows_exchanged(self):
        sheet = sheet_of(MIXED)
        for one in range(len(sheet)):
            for other in range(one):
                rows = list(sheet)
                rows[one], rows[other] = rows[other], rows[one]
                self.assertIs(sheet_holds(MIXED, rows), rows == sheet)
        self.wrong([row[::-1] for row in sheet])
        self.wrong([tuple(flows[::-1] for flows in row) for row in sheet])

    def test_a_kind_or_a_flow_more_or_less(self):
        sheet = sheet_of(MIXED)
        self.wrong([row + ((0,) * 6,) for row in sheet])
        self.wrong([row[:2] for row in sheet])
        self.wrong([tuple(flows + (0,) for flows in row) for row in sheet])
        self.wrong([tuple(flows[:5] for flows in row) for row in sheet])

    def test_lists_and_tuples(self):
        sheet = sheet_of(MIXED)
        self.wrong(tuple(sheet))
        self.wrong([list(row) for row in sheet])
        self.wrong([tuple(list(flows) for flows in row) for row in sheet])
        self.wrong([sheet])
        self.wrong(dict(enumerate(sheet)))
        self.wrong(str(sheet))
        for many, row in enumerate(sheet):
            self.wrong(sheet[:many] + [list(row)] + sheet[many + 1:])
            self.wrong(sheet[:many] + [with_part(row, 2, list(row[2]))] + sheet[many + 1:])

    def test_truths_in_the_stead_of_numbers(self):
        book = (TRAIN, ((0, 1, HALVES), (1, 1, HALVES)), (("swap", 0, 1, 2, 1), ("spoil", 1, 1)))
        sheet = sheet_of(book)
        self.assertIs(sheet_holds(book, sheet), True)
        seen = set()
        for many, row in enumerate(sheet):
            for kind, flows in enumerate(row):
                for flow, number in enumerate(flows):
                    seen.add(number)
                    self.assertEqual(sheet, with_number(sheet, many, kind, flow, bool(number)))
                    self.wrong(with_number(sheet, many, kind, flow, bool(number)), book)
        self.assertEqual(seen, {0, 1})

    def test_of_another_book(self):
        books = [MIXED] + other_books(MIXED)
        for book in books:
            for other in books:
                self.assertIs(sheet_holds(book, sheet_of(other)), sheet_of(book) == sheet_of(other))

    def test_whatever(self):
        sheet = sheet_of(MIXED)
        for thing in WHATEVER:
            for book in (MIXED, (TRAIN, (), ())):
                self.wrong(thing, book)
                self.wrong([thing], book)
            self.wrong([thing] + sheet[1:])
            self.wrong(sheet[:3] + [thing] + sheet[4:])
            self.wrong(sheet[:3] + [with_part(sheet[3], 1, thing)] + sheet[4:])
            # The got of kind 1 is 0 throughout.
            if isinstance(thing, bool) or thing != 0:
                self.wrong(with_number(sheet, 3, 1, GOT, thing))


class Kept(unittest.TestCase):
    def test_a_sheet_that_is_handed_in_is_kept(self):
        sheet = sheet_of(MIXED)
        sheet_holds(MIXED, sheet)
        self.assertEqual(sheet, sheet_of(MIXED))

    def test_books_by_turns(self):
        books = [MIXED] + other_books(MIXED)
        for many in range(13):
            alone = [(stock_by(book, many), flows_by(book, many)) for book in books]
            for other in range(1, len(books)):
                for at in (0, other, 0, other):
                    self.assertEqual((stock_by(books[at], many), flows_by(books[at], many)), alone[at])
                    self.assertIs(sheet_holds(books[at], sheet_of(books[at])), True)


if __name__ == "__main__":
    unittest.main()
