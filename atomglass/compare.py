"""Two plain patterns compared for all texts."""

from atomglass.errors import TooMany
from atomglass.plain import PlainCode, rising
from atomglass.sets import marks

MOST_PAIRS = 200


def stand_behind(pattern, text):
    """The stand of a plain pattern behind a text, its rows rising."""
    plain = PlainCode(pattern)
    stand = plain.first_stand()
    for sign in text:
        stand = plain.next_stand(stand, sign)
    return rising(stand)


def telling_signs(one, other):
    """The first sign of each class of signs that no read of the two codes tells apart, in their order."""
    return marks([row[1] for row in one.rows + other.rows if row[0] == "read"])


class Pairs:
    """The pairs of stands that were found so far, in the order of their first texts."""

    def __init__(self, one, other, most):
        self.one = one
        self.other = other
        self.most = most
        self.found = []
        self.seen = {}

    def put_pair(self, text, left, right):
        """Puts a pair behind the others where it is a new one; tells whether it parts the two patterns."""
        if (left, right) in self.seen:
            return False
        if len(self.found) == self.most:
            raise TooMany(self.most)
        self.seen[(left, right)] = True
        self.found.append((text, left, right))
        return self.one.has_done(left) != self.other.has_done(right)


def compared(one, other, *, most=MOST_PAIRS):
    """("alike", rows) or ("parted", text): whether two plain patterns take the same texts whole.

    Pairs are found in the order of their first texts: those are the first text of a pair found before, with one sign
    more, and of the signs that lead on alike the first one.
    """
    plain, fellow = PlainCode(one), PlainCode(other)
    signs = telling_signs(plain, fellow)
    pairs = Pairs(plain, fellow, most)
    if pairs.put_pair("", rising(plain.first_stand()), rising(fellow.first_stand())):
        return ("parted", "")
    looked_at = 0
    while looked_at < len(pairs.found):
        text, left, right = pairs.found[looked_at]
        looked_at += 1
        for sign in signs:
            longer = text + sign
            if pairs.put_pair(longer, rising(plain.next_stand(left, sign)), rising(fellow.next_stand(right, sign))):
                return ("parted", longer)
    return ("alike", pairs.found)
