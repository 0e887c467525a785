"""Scans: the ways of a text found one by one."""

from atomglass.finds import next_way, place_behind
from atomglass.places import check_place
from atomglass.walker import Walker


class Scan:
    """A going through the ways of a pattern in a text; place is where it looks from."""

    def __init__(self, pattern, text):
        self.text = text
        self.walker = Walker(pattern, text)
        self.place = 0

    def go(self):
        """The next way, or None."""
        way = next_way(self.walker, self.text, self.place)
        self.place = len(self.text) + 1 if way is None else place_behind(way)
        return way

    def back_to(self, at):
        """Looks on from a place, ahead or back."""
        check_place(at, self.text)
        self.place = at
