"""[4], [5], [6], [111]: texts of amounts, deeds and books, and books read from texts."""

import random
import unittest

from sharetrail.alone import by_others
from sharetrail.books import first_wrong, is_book
from sharetrail.errors import NotDone, NoText
from sharetrail.home import next_book, stays_over
from sharetrail.leaders import Leader
from sharetrail.loads import holders_by, theirs_by
from sharetrail.sales import unsold
from sharetrail.texts import amount_text, book_read, book_text, deed_text, number_read, number_text
from things import BOOKS, HALVES, MIXED, NO_NUMBERS, TRAIN, UNDONE, WHATEVER, other_books
from written import SIGNS, book_of, has_amounts, spoilt_at, spoilt_words

GREAT = 10 ** 39 + 7
ALL_BOOKS = BOOKS + [MIXED] + other_books(MIXED) + [(TRAIN, (), ())]
MIXED_TEXT = """train 2 3 5 1 2 1/2,1/2
first 0 10 1/3,2/3
first 0 4 1/1,0/1
first 1 6 1/2,1/2
bring 1 0 6
pool 3 0
sell 0 1 1/4
swap 4 5 2 9
throw 4 3 1,2,3,4
trade 7 5 9 0 2
pool 6 4
spoil 2 6
throw 7 4 5,1,7,2
pool 1 7
sell 1 0 5/6
bring 1 2 5
throw 9 5 1,1,1,1"""
SMALL = MIXED[:2] + (MIXED[2][:6],)
GREAT_BOOK = (
    (1, 2, 20, ((1, 1),), 0, 9),
    ((1, GREAT, ((1, 1),)),),
    (("bring", 0, 0, 10 ** 40 - 1), ("swap", 0, GREAT, 0, 10 ** 45), ("pool", 1, 2), ("throw", 3, 1, (99, 1, 10))),
)


def right_book(text):
    """The book that a text writes, by the patterns of the document; None where it writes none."""
    book = book_of(text)
    if book is None or not has_amounts(text) or not is_book(book) or first_wrong(book) is not None:
        return None
    return book


class Amounts(unittest.TestCase):
    def test_amounts(self):
        cases = {(0, 1): "0/1", (1, 1): "1/1", (1, 2): "1/2", (25, 3): "25/3", (10, 1): "10/1", (-7, 3): "-7/3"}
        for amount, text in cases.items():
            self.assertEqual(amount_text(amount), text)

    def test_great_numbers(self):
        for many in (39, 40, 41, 63, 64, 65, 128, 129, 1000, 4000, 4300):
            for number in (10 ** (many - 1), 10 ** many - 1, 10 ** (many - 1) + 1, 7 * 10 ** (many - 1) + 3 ** many):
                self.assertEqual(amount_text((number, 1)), f"{number}/1")
                self.assertEqual(amount_text((-number, 1)), f"-{number}/1")
                self.assertEqual(amount_text((1, number)), f"1/{number}")

    def test_more_figures_than_python_writes_at_once(self):
        for many in (4301, 5000, 10000):
            self.assertEqual(amount_text((10 ** many, 1)), "1" + "0" * many + "/1")
            self.assertEqual(amount_text((1, 10 ** many - 1)), "1/" + "9" * many)
            self.assertEqual(number_read("1" + "0" * many), 10 ** many)
            self.assertEqual(number_read("9" * many), 10 ** many - 1)

    def test_what_was_told(self):
        for book in ALL_BOOKS[:40]:
            for partner in range(book[0][0]):
                for top, bottom in theirs_by(book, len(book[2]), partner) + by_others(book, partner):
                    self.assertEqual(amount_text((top, bottom)), f"{top}/{bottom}")


class Numbers(unittest.TestCase):
    def test_there_and_back(self):
        chance = random.Random(3)
        for many in (1, 2, 10, 63, 64, 65, 127, 128, 129, 500):
            for _ in range(20):
                number = chance.randrange(10 ** many)
                self.assertEqual(number_text(number), str(number))
                self.assertEqual(number_read(str(number)), number)
        self.assertEqual((number_text(0), number_read("0")), ("0", 0))

    def test_no_numbers(self):
        words = ["", "00", "01", "007", "-1", "+1", " 1", "1 ", "1_0", "1.0", "x", "1x", "0x1", "1\n", "\n1", "\t1", "1e3"]
        # Figures to Python, but not to the document.
        words += ["\u0661", "\u00b2", "1\u0662"]
        for word in words:
            self.assertIsNone(number_read(word), word)


class Deeds(unittest.TestCase):
    def test_all_seven_words(self):
        cases = {
            ("bring", 1, 0, 6): "bring 1 0 6", ("pool", 3, 0): "pool 3 0", ("swap", 4, 5, 2, 9): "swap 4 5 2 9",
            ("trade", 7, 5, 9, 0, 2): "trade 7 5 9 0 2", ("spoil", 2, 6): "spoil 2 6",
            ("throw", 4, 3, (1, 2, 3, 4)): "throw 4 3 1,2,3,4", ("throw", 0, 1, (99, 1)): "throw 0 1 99,1",
            ("sell", 0, 1, (1, 4)): "sell 0 1 1/4", ("sell", 3, 2, (1, 1)): "sell 3 2 1/1",
        }
        for deed, text in cases.items():
            self.assertEqual(deed_text(deed), text)

    def test_great_numbers(self):
        for number in (GREAT, 10 ** 40 - 1, 10 ** 45):
            self.assertEqual(deed_text(("swap", number, number, 2, number)), f"swap {number} {number} 2 {number}")

    def test_of_books(self):
        for book in ALL_BOOKS:
            rows = book_text(book).split("\n")
            self.assertEqual([deed_text(deed) for deed in book[2]], rows[1 + len(book[1]):])


class Books(unittest.TestCase):
    def test_by_hand(self):
        self.assertEqual(book_text(MIXED), MIXED_TEXT)
        self.assertEqual(book_read(MIXED_TEXT), MIXED)
        self.assertEqual(book_text((TRAIN, (), ())), "train 2 3 5 1 2 1/2,1/2")
        self.assertEqual(book_text(((1, 1, 20, ((1, 1),), 0, 9), (), ())), "train 1 1 20 0 9 1/1")
        self.assertEqual(book_text((TRAIN, (), (("bring", 0, 2, 7),))), "train 2 3 5 1 2 1/2,1/2\nbring 0 2 7")

    def test_there_and_back(self):
        for book in ALL_BOOKS + [GREAT_BOOK]:
            text = book_text(book)
            self.assertEqual(book_read(text), book)
            self.assertEqual(right_book(text), book)

    def test_great_numbers(self):
        text = f"train 1 2 20 0 9 1/1\nfirst 1 {GREAT} 1/1\nbring 0 0 {'9' * 40}\nswap 0 {GREAT} 0 1{'0' * 45}"
        self.assertEqual(book_text(GREAT_BOOK), text + "\npool 1 2\nthrow 3 1 99,1,10")

    def test_what_was_told(self):
        for book in ALL_BOOKS:
            told = [next_book(book)] if len(stays_over(book)) <= 4 else []
            told += [unsold(book, place) for place, deed in enumerate(book[2]) if deed[0] == "sell"]
            for other in told:
                self.assertEqual(book_read(book_text(other)), other)

    def test_figures_beyond_what_python_writes_at_once(self):
        leader = Leader((2, 1, 7, ((1, 3), (2, 3)), 3, 1), ((0, 9, HALVES),))
        for turn in range(39):
            brought = len(leader.book()[1])
            leader.do(("bring", turn & 1, 0, GREAT + turn))
            for more in range(3):
                leader.do(("throw", brought, 5 + turn + more, (7, 9 + more)))
            leader.do(("pool", 0, brought))
            leader.start()
        book = leader.book()
        self.assertGreater(book[0][3][0][1], 10 ** 4300)
        text = book_text(book)
        self.assertTrue(text.startswith("train 2 1 7 3 1 " + number_text(book[0][3][0][0]) + "/"))
        self.assertEqual(book_read(text), book)
        self.assertEqual(holders_by(book, 0), book[0][3])

    def test_not_done(self):
        with self.assertRaises(NotDone) as taken:
            book_text(UNDONE)
        self.assertEqual(taken.exception.at, 4)


class NoTexts(unittest.TestCase):
    def refused(self, text):
        with self.assertRaises(NoText, msg=text) as taken:
            book_read(text)
        self.assertIs(type(taken.exception), NoText)

    def as_the_patterns_say(self, texts):
        """Read where the patterns make it a book, refused else; how many of each."""
        read = refused = 0
        for text in texts:
            book = right_book(text)
            if book is None:
                self.refused(text)
                refused += 1
            else:
                self.assertEqual(book_read(text), book, text)
                read += 1
        return read, refused

    def test_one_sign_more_less_or_otherwise(self):
        text = book_text(SMALL)
        for written in (text, book_text(GREAT_BOOK)):
            read, refused = self.as_the_patterns_say(
                [other for at in range(len(written) + 1) for other in spoilt_at(written, at)]
            )
            self.assertGreater(min(read, refused), 50)

    def test_two_signs_otherwise(self):
        chance = random.Random(5)
        texts = []
        for _ in range(6000):
            text = book_text(SMALL)
            for _ in range(2):
                at = chance.randrange(len(text))
                text = chance.choice(spoilt_at(text, at)[:2 * len(SIGNS) + 2])
            texts.append(text)
        self.as_the_patterns_say(texts)

    def test_words_and_rows(self):
        text = book_text(SMALL)
        read, refused = self.as_the_patterns_say(spoilt_words(text, " ") + spoilt_words(text, "\n"))
        self.assertGreater(min(read, refused), 10)
        self.as_the_patterns_say(spoilt_words(MIXED_TEXT, "\n"))

    def test_rows_exchanged(self):
        rows = MIXED_TEXT.split("\n")
        texts = []
        for one in range(len(rows)):
            for two in range(one):
                other = list(rows)
                other[one], other[two] = rows[two], rows[one]
                texts.append("\n".join(other))
        read, refused = self.as_the_patterns_say(texts)
        self.assertGreater(min(read, refused), 1)
        # A first load behind a deed, though all could be done.
        self.refused("train 2 3 5 1 2 1/2,1/2\nbring 0 0 1\nfirst 0 10 1/3,2/3")
        self.refused("train 2 3 5 1 2 1/2,1/2\nfirst 0 9 1/3,2/3\nbring 0 0 1\nfirst 0 10 1/3,2/3")

    def test_the_named_ones(self):
        text = MIXED_TEXT
        for wrong in (
            "", " ", "\n", "train", "first 0 10 1/3,2/3", text + " ", text + "\n", " " + text, "\n" + text,
            text.replace("\n", "\r"), text.replace("\n", "\r\n"), text.replace("\n", "\n\n"), text.replace(" ", "  "),
            text.replace(" ", "\t"), text.replace("bring 1 0 6", "bring 1 0 06"), text.replace("\n", " ; "),
            text.replace("bring 1 0 6", "bring 1 0 +6"), text.replace("bring 1 0 6", "bring 1 0"),
            text.replace("1/4", "2/8"), text.replace("1/4", "-1/4"), text.replace("1/4", "1/4/1"), text.upper(),
            text.replace("1/2,1/2", "1/2,2/4"), text.replace("1/2,1/2", "1/2, 1/2"), text.replace("1/2,1/2", "1/2"),
            text.replace("1/2,1/2", "1/2,1/2,"), text.replace("1/2,1/2", "1/2,1/2,0/1"), text + "\nstart", text + "\nundo",
            text.replace("first 0 10", "first 0 0"), text.replace("first 0 10", "first 3 10"), text + "\n" + text,
            text.replace("first 0 10 1/3,2/3", "first 0 10 1/3,2/3\n" * 3), text.replace("train 2", "train 3"),
        ):
            self.refused(wrong)

    def test_books_with_a_deed_that_can_not_be_done(self):
        self.refused(MIXED_TEXT.replace("pool 3 0", "pool 3 2"))
        self.refused(MIXED_TEXT + "\nspoil 0 1")
        self.refused("train 1 1 1 0 0 1/1\nspoil 0 1")

    def test_more_than_a_book_has(self):
        train = "train 2 3 5 1 2 1/2,1/2"
        load, deed, throw = "first 0 1 1/2,1/2", "bring 0 0 9", "throw 0 1 1,1,1,1"
        for ahead, row, most in (([], load, 4), ([], deed, 20), ([deed], throw, 3)):
            book_read("\n".join([train] + ahead + [row] * most))
            self.refused("\n".join([train] + ahead + [row] * (most + 1)))

    def test_whatever(self):
        for thing in WHATEVER + NO_NUMBERS + [MIXED, list(MIXED), [MIXED_TEXT], (MIXED_TEXT,), {MIXED_TEXT: 1}, TRAIN]:
            self.refused(thing)

    def test_long_texts(self):
        for text in ("1" * 4000, "\n" * 4000, " " * 4000, "/" * 4000, "," * 4000, "train " * 600, "0" * 4000):
            self.refused(text)
            self.refused("train 2 3 5 1 2 1/2,1/2\n" + text)
            self.refused("train 2 3 5 1 2 " + text)


class Kept(unittest.TestCase):
    def test_by_turns(self):
        books = [MIXED] + other_books(MIXED)
        texts = [book_text(book) for book in books]
        self.assertEqual(len(set(texts)), len(books))
        for at in (0, 1, 0, 2, 3, 0, 4, 5, 1, 0):
            self.assertEqual(book_text(books[at]), texts[at])
            self.assertEqual(book_read(texts[at]), books[at])


if __name__ == "__main__":
    unittest.main()
