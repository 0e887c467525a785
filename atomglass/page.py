"""Pages: rows of text, each looked through only when it is new."""

from atomglass.errors import NoPlace, TooMany
from atomglass.finds import WALK, spots
from atomglass.signs import is_whole

MOST_ON_PAGE = 40


def check_number(at, many):
    """Refuses what is no number of one of so many rows."""
    if not is_whole(at) or not 0 <= at < many:
        raise NoPlace(at)


class Page:
    """Rows of text, and for each what was found in it, or None where it is still to be looked through."""

    def __init__(self, pattern):
        self.wanted = pattern
        self.rows = []
        self.found = []
        self.sought = 0

    def put(self, at, text):
        """Puts a new row in, ahead of the one that had its number."""
        check_number(at, len(self.rows) + 1)
        if len(self.rows) == MOST_ON_PAGE:
            raise TooMany(MOST_ON_PAGE)
        self.rows.insert(at, text)
        self.found.insert(at, None)

    def change(self, at, text):
        """Puts a text in the place of a row's."""
        check_number(at, len(self.rows))
        self.rows[at] = text
        self.found[at] = None

    def drop(self, at):
        """Takes a row out."""
        check_number(at, len(self.rows))
        del self.rows[at]
        del self.found[at]

    def texts(self):
        """The rows, in a new list."""
        return list(self.rows)

    def all_finds(self):
        """Tuples of a row's number, a begin and an end, of all that is found; only new rows are looked through."""
        told = []
        for number, text in enumerate(self.rows):
            if self.found[number] is None:
                self.found[number] = spots(self.wanted, text, engine=WALK)
                self.sought += 1
            told.extend([(number, begin, end) for begin, end in self.found[number]])
        return told
