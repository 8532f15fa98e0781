"""A leader, who keeps a book, does deeds and undoes them."""

from sharetrail.books import are_deeds, are_first, is_deed, is_train, made_by, refuse_undone
from sharetrail.errors import NoDeed, NoFirst, NoNext, NothingDone, NoTrain, TooMany
from sharetrail.home import next_book
from sharetrail.loads import theirs_by


class Leader:
    """Keeps a book; kept is the book as it is now, earlier the books ahead of each deed and start."""

    def __init__(self, train, first):
        if not is_train(train):
            raise NoTrain("this is no train")
        if not are_first(train, first):
            raise NoFirst("no book of the train begins with these loads")
        self.kept = (train, first, ())
        self.earlier = []

    def turn_to(self, book):
        """Turns to another book, such that undo turns back."""
        self.earlier.append(self.kept)
        self.kept = book

    def do(self, deed):
        """Does the deed; the number of the load that it makes, None where it makes none."""
        train, first, deeds = self.kept
        if not is_deed(train, deed):
            raise NoDeed("this is no deed of the train")
        behind = (train, first, deeds + (deed,))
        refuse_undone(behind)
        # Each of them is a deed, so they can only be too many.
        if not are_deeds(train, behind[2]):
            raise TooMany("a book hasn't so many deeds or throws")
        self.turn_to(behind)
        return made_by(behind, len(deeds))

    def start(self):
        """The book becomes the book of the next train."""
        if len(self.kept[2]) == 0:
            raise NoNext("a book without deeds has no next book")
        self.turn_to(next_book(self.kept))

    def undo(self):
        """Undoes the last deed or start that isn't undone yet."""
        if len(self.earlier) == 0:
            raise NothingDone("there is nothing to undo")
        self.kept = self.earlier.pop()

    def book(self):
        """The book as it is now."""
        return self.kept

    def theirs(self, partner):
        """What is the partner's now, by kinds."""
        return theirs_by(self.kept, len(self.kept[2]), partner)

    def twin(self):
        """Another Leader, of the same book, with the same that can be undone."""
        other = Leader(self.kept[0], self.kept[1])
        other.kept = self.kept
        other.earlier = list(self.earlier)
        return other
