"""Amounts, deeds and books as texts, and books read from what writes them."""

from sharetrail.amounts import is_amount
from sharetrail.books import FORMS, first_wrong, is_book, refuse_undone
from sharetrail.errors import NoText


def number_text(number):
    """A whole number in figures."""
    if number < 0:
        return "-" + number_text(-number)
    # Python's own str gives up at some thousand figures, and shares may have more; so it writes 64 at a time.
    parts = []
    while number >= 10 ** 64:
        number, low = divmod(number, 10 ** 64)
        parts.append(str(low).zfill(64))
    parts.append(str(number))
    return "".join(parts[::-1])


def number_read(word):
    """The whole number from 0 on that the word writes, None where it writes none."""
    # Python takes signs for figures that aren't ASCII.
    if not (word.isascii() and word.isdigit()) or (word[0] == "0" and len(word) > 1):
        return None
    # Python's own int gives up where its str does.
    blocks = (len(word) + 63) // 64
    padded = word.zfill(64 * blocks)
    number = 0
    for block in range(blocks):
        number = number * 10 ** 64 + int(padded[64 * block:64 * block + 64])
    return number


def amount_text(amount):
    """The amount as a text."""
    return f"{number_text(amount[0])}/{number_text(amount[1])}"


def amount_read(word):
    """The amount, its top from 0 on, that the word writes, None where it writes none."""
    top, slash, bottom = word.partition("/")
    amount = (number_read(top), number_read(bottom))
    return amount if is_amount(amount) else None


def numbers_text(numbers, between):
    """Whole numbers with a text between."""
    return between.join([number_text(number) for number in numbers])


def amounts_text(amounts, between):
    """Amounts with a text between."""
    return between.join([amount_text(amount) for amount in amounts])


def all_read(things):
    """A tuple of the things that were read, None where one of them couldn't be."""
    if any([thing is None for thing in things]):
        return None
    return tuple(things)


def numbers_read(word):
    """The whole numbers that the word writes with commas between, None where it doesn't."""
    return all_read([number_read(part) for part in word.split(",")])


def amounts_read(word):
    """The amounts that the word writes with commas between, None where it doesn't."""
    return all_read([amount_read(part) for part in word.split(",")])


# What a row says behind its word; a deed's form tells the same of deeds.
TRAIN_FORM = ("partners", "kinds", "beasts", "hire", "part", "shares")
LOAD_FORM = ("kind", "pieces", "shares")


def part_text(part, thing):
    """A part of a form as a word."""
    if part == "share":
        return amount_text(thing)
    if part == "shares":
        return amounts_text(thing, ",")
    if part == "worths":
        return numbers_text(thing, ",")
    return number_text(thing)


def part_read(part, word):
    """What a word writes as a part of a form, None where it writes none."""
    if part == "share":
        return amount_read(word)
    if part == "shares":
        return amounts_read(word)
    if part == "worths":
        return numbers_read(word)
    return number_read(word)


def form_text(form, things):
    """The things of a form with one blank between."""
    return " ".join([part_text(part, thing) for part, thing in zip(form, things)])


def form_read(form, words):
    """The things that the words write by a form, None where they don't."""
    if len(words) != len(form):
        return None
    return all_read([part_read(part, word) for part, word in zip(form, words)])


def train_text(train):
    """The train as a row."""
    partners, kinds, beasts, holders, hire, part = train
    return "train " + form_text(TRAIN_FORM, (partners, kinds, beasts, hire, part, holders))


def train_read(row):
    """What the row writes as a train, be it one or not; None where it isn't written so."""
    word, *words = row.split(" ")
    things = form_read(TRAIN_FORM, words)
    if word != "train" or things is None:
        return None
    partners, kinds, beasts, hire, part, holders = things
    return (partners, kinds, beasts, holders, hire, part)


def load_text(load):
    """The load as a text."""
    return form_text(LOAD_FORM, load)


def first_read(row):
    """What the row writes as a first load, be it one or not; None where it isn't written so."""
    word, *words = row.split(" ")
    return form_read(LOAD_FORM, words) if word == "first" else None


def deed_text(deed):
    """The deed as a row."""
    return f"{deed[0]} {form_text(FORMS[deed[0]], deed[1:])}"


def deed_read(row):
    """What the row writes as a deed, whether a train lets it or not; None where it isn't written so."""
    word, *words = row.split(" ")
    if word not in FORMS:
        return None
    things = form_read(FORMS[word], words)
    return None if things is None else (word,) + things


def book_told(book):
    """The text of a book, whether its deeds can be done or not."""
    train, first, deeds = book
    rows = [train_text(train)] + ["first " + load_text(load) for load in first] + [deed_text(deed) for deed in deeds]
    return "\n".join(rows)


def book_text(book):
    """The book as a text."""
    refuse_undone(book)
    return book_told(book)


def rows_read(rows):
    """What the rows write as a book, be it one or not."""
    loads = [first_read(row) for row in rows[1:] if row.startswith("first ")]
    deeds = [deed_read(row) for row in rows[1:] if not row.startswith("first ")]
    return (train_read(rows[0]), tuple(loads), tuple(deeds))


def book_read(text):
    """The book, whose deeds can all be done, that the text writes."""
    if not isinstance(text, str):
        raise NoText("this is no text")
    book = rows_read(text.split("\n"))
    if not is_book(book) or first_wrong(book) is not None:
        raise NoText("this writes no book whose deeds can be done")
    # Loads behind deeds are read too, but no book is written so.
    if book_told(book) != text:
        raise NoText("no book is written so")
    return book
