"""What the document says of texts and rows, as patterns, and ways to spoil a text."""

import math
import re

NUMBER = r"(?:0|[1-9][0-9]*)"
AMOUNT = rf"{NUMBER}/{NUMBER}"
SHARES = rf"{AMOUNT}(?:,{AMOUNT})*"
WORTHS = rf"{NUMBER}(?:,{NUMBER})*"
TRAIN_ROW = rf"train(?: {NUMBER}){{5}} {SHARES}"
FIRST_ROW = rf"first {NUMBER} {NUMBER} {SHARES}"
DEED_ROWS = [
    rf"bring(?: {NUMBER}){{3}}", rf"pool(?: {NUMBER}){{2}}", rf"swap(?: {NUMBER}){{4}}", rf"trade(?: {NUMBER}){{5}}",
    rf"spoil(?: {NUMBER}){{2}}", rf"throw(?: {NUMBER}){{2}} {WORTHS}", rf"sell(?: {NUMBER}){{2}} {AMOUNT}",
]
ASKED_ROWS = [rf"(?:load|has|origins|chain|takes|cost|alone) {NUMBER}", "undo|start|book|holders|stock"]


def holds(pattern, text):
    return re.fullmatch(pattern, text, re.ASCII) is not None


def has_amounts(text):
    """Whether all amounts in the text are in lowest terms, their bottoms from 1 on."""
    pairs = [(int(top), int(bottom)) for top, bottom in re.findall(r"([0-9]+)/([0-9]+)", text)]
    return all(bottom > 0 and math.gcd(top, bottom) == 1 for top, bottom in pairs)


def is_row(row):
    """Whether a text is a row that a desk knows."""
    if not any(holds(pattern, row) for pattern in [TRAIN_ROW] + DEED_ROWS + ASKED_ROWS):
        return False
    return has_amounts(row) and all(len(figures) <= 40 for figures in re.findall("[0-9]+", row))


def thing_of(word):
    """What a word of a row writes."""
    if "," in word:
        return tuple(thing_of(part) for part in word.split(","))
    if "/" in word:
        return tuple(int(part) for part in word.split("/"))
    return int(word)


def in_brackets(word):
    """What a word writes that may be one thing or several with commas between."""
    return thing_of(word) if "," in word else (thing_of(word),)


def train_of(row):
    partners, kinds, beasts, hire, part, shares = row.split(" ")[1:]
    return (*map(int, (partners, kinds, beasts)), in_brackets(shares), int(hire), int(part))


def deed_of(row):
    words = row.split(" ")
    if words[0] == "throw":
        return ("throw", int(words[1]), int(words[2]), in_brackets(words[3]))
    return (words[0], *map(thing_of, words[1:]))


def book_of(text):
    """What a text writes as a book, be it one or not; None where no book is written so."""
    first, *rows = text.split("\n")
    loads = 0
    while loads < len(rows) and holds(FIRST_ROW, rows[loads]):
        loads += 1
    deeds = rows[loads:]
    if not holds(TRAIN_ROW, first) or not all(holds("|".join(DEED_ROWS), row) for row in deeds):
        return None
    words = [row.split(" ") for row in rows[:loads]]
    told = tuple((int(kind), int(pieces), in_brackets(shares)) for word, kind, pieces, shares in words)
    return (train_of(first), told, tuple(map(deed_of, deeds)))


SIGNS = "0127 ,/-+.\n\t\r;:xX_\"'"


def spoilt_at(text, at):
    """The text with one sign put in, left out, exchanged or twice, at a place."""
    told = [text[:at] + sign + text[at:] for sign in SIGNS] + [text[:at] + sign + text[at + 1:] for sign in SIGNS]
    return told + [text[:at] + text[at + 1:], text[:at] + text[at:at + 1] + text[at:], text[:at], text[at:]]


def spoilt_words(text, between):
    """The text with one of its words gone, twice, exchanged with the next, made great or otherwise."""
    words = text.split(between)
    others = ["", "0", "1", "9", "00", "01", "-1", "+1", "1/2", "2/4", "0/1", "0/2", "1/0", "3/2", "1,2", "1/2,1/2", "None"]
    others += ["True", "1.0", "1e3", "train", "first", "sell", "undo", "9" * 40, "9" * 41, "1" + "0" * 40, "x"]
    told = []
    for at, word in enumerate(words):
        told += [words[:at] + words[at + 1:], words[:at] + [word] + words[at:]]
        told += [words[:at] + words[at + 1:at + 2] + [word] + words[at + 2:]]
        told += [words[:at] + [other] + words[at + 1:] for other in others + ["0" + word, word + "0", word.upper()]]
        told += [words[:at] + [other] + words[at:] for other in others]
    return [between.join(changed) for changed in told]
