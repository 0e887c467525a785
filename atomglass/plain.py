"""Plain codes, and which rows their routes come to without reading on.

A stand is a tuple of numbers of rows read and done.
"""

from atomglass.codes import reads_of
from atomglass.errors import Unfit

PLAIN_WORDS = ("read", "fork", "go", "open", "close", "done")


def plain_code(pattern):
    """The code of a plain pattern; Unfit with the word of the first row that is not plain."""
    rows = pattern.code()
    for row in rows:
        if row[0] not in PLAIN_WORDS:
            raise Unfit(row[0])
    return rows


def rising(stand):
    """The stand with its rows rising: where it is asked which rows are in it, their order is no matter."""
    return tuple(sorted(stand))


class PlainCode:
    """The code of a plain pattern, gone through by all routes together."""

    def __init__(self, pattern):
        self.rows = plain_code(pattern)
        self.reads = reads_of(self.rows)
        self.done = len(self.rows) - 1

    def has_done(self, stand):
        """Whether done is among the rows of a stand."""
        return self.done in stand

    def goes_on(self, number):
        """The rows to which routes go on from a row without reading, the first one last."""
        row = self.rows[number]
        word = row[0]
        if word == "fork":
            return [row[2], row[1]]
        if word == "go":
            return [row[1]]
        if word in ("open", "close"):
            return [number + 1]
        return []

    def stand_from(self, begins):
        """The rows read and done to which routes come from these rows, in the order of the routes, each once."""
        seen = set()
        stand = []
        pile = begins[::-1]
        while pile:
            number = pile.pop()
            if number in seen:
                continue
            seen.add(number)
            following = self.goes_on(number)
            if following:
                pile.extend(following)
            else:
                stand.append(number)
        return tuple(stand)

    def first_stand(self):
        """The stand ahead of all signs, in the order of the routes."""
        return self.stand_from([0])

    def next_stand(self, stand, sign):
        """The stand behind one more sign, in the order of the routes."""
        return self.stand_from([number + 1 for number in stand if sign in self.reads[number]])
