"""The names, arguments and classes of the whole program are there as the document tells them."""

import importlib
import inspect
import pathlib
import unittest

DEFS = {
    "books": """is_share(thing) is_train(thing) is_load(train, thing) is_deed(train, thing) is_book(thing)
        first_wrong(book) made_by(book, place)""",
    "loads": "loads_by(book, many) holders_by(book, many) theirs_by(book, many, partner)",
    "stops": "stock_by(book, many) flows_by(book, many) sheet_holds(book, thing)",
    "chains": """made_of(book, load) origins_of(book, load) is_chain(book, load, thing) first_chain(book, load)
        many_chains(book, load) reached(book, load) come_home(book)""",
    "throws": "cost_of(book, place) bearing(book, place) bearing_holds(book, place, thing)",
    "sales": "unsold(book, place) turned_by(book, place)",
    "home": """due_of(book, partner, load) account_of(book, partner, ahead, later) settled(book, order)
        takes_of(book, partner) stays_over(book) next_book(book)""",
    "clashes": "trades_of(book) first_clash(book, other) clash_holds(book, other, thing)",
    "alone": "alone_of(book, partner) by_others(book, partner)",
    "texts": "amount_text(amount) deed_text(deed) book_text(book) book_read(text)",
}
METHODS = {
    "leaders.Leader": """__init__(self, train, first) do(self, deed) start(self) undo(self) book(self)
        theirs(self, partner) twin(self)""",
    "desk.Desk": "__init__(self) say(self, row)",
}


def signatures(text):
    return [row.strip() + ")" for row in text.split(")") if row.strip()]


class Interface(unittest.TestCase):
    def told(self, holder, text):
        for signature in signatures(text):
            name = signature.partition("(")[0]
            self.assertEqual(name + str(inspect.signature(getattr(holder, name))), signature)

    def test_defs(self):
        for module, text in DEFS.items():
            self.told(importlib.import_module(f"sharetrail.{module}"), text)

    def test_classes(self):
        for place, text in METHODS.items():
            module, _, name = place.partition(".")
            self.told(getattr(importlib.import_module(f"sharetrail.{module}"), name), text)

    def test_the_package_lies_beside_the_tests(self):
        package = pathlib.Path(importlib.import_module("sharetrail").__file__).resolve().parent
        self.assertEqual(package.parent, pathlib.Path(__file__).resolve().parent.parent)


if __name__ == "__main__":
    unittest.main()
