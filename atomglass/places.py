"""Places of a text."""

from atomglass.errors import NoPlace
from atomglass.signs import is_whole


def is_place(whatever, text):
    """Whether it is a place of the text: a whole number from 0 to how many signs the text has."""
    return is_whole(whatever) and 0 <= whatever <= len(text)


def check_place(at, text):
    """Refuses what is no place of the text."""
    if not is_place(at, text):
        raise NoPlace(at)
