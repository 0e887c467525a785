"""What several tests share: the signs by the document's own words, and things of all kinds."""

import random

ORDER = "\n" + "".join(chr(k) for k in range(32, 127) if chr(k) != "%")
SMALL = "abcdefghijklmnopqrstuvwxyz"
GREAT = SMALL.upper()
FIGURES = "0123456789"


class Odd:
    """A thing of a kind that no file of the package knows; it is like everything."""

    def __eq__(self, other):
        return True

    def __hash__(self):
        return 0


def no_strings():
    """Things that are no str, made anew for each asker."""
    return [
        0, 1, -1, 9, 400, 10 ** 30, True, False, None, [], ["a"], [[]], (), ("a",), ("a", "b"), (("a",),),
        {}, {"a": 1}, {1: "a"}, set(), {"a"}, frozenset("a"), b"", b"a", bytearray(b"a"), range(3), object(),
        Odd(), int, str, len, ValueError("a"), iter("a"),
    ]


def no_places(text):
    """Whatever is no place of a text."""
    things = no_strings() + ["", "0", "a", -1, -10 ** 20, len(text) + 1, len(text) + 2, 10 ** 20, [0], (0,), {0: 0}]
    return [thing for thing in things if not (type(thing) is int and 0 <= thing <= len(text))]


def rng(seed):
    """A row of numbers that is the same in each run."""
    return random.Random(seed)
