"""Templates: texts with places for what a way and its groups have taken."""

from atomglass.errors import NoName, NoTemplate
from atomglass.finds import WALK, finds, pieces_around, put_together
from atomglass.reader import end_of_letters, sign_at
from atomglass.signs import MOST_SIGNS, is_sign

FIGURES = "0123456789"


def read_marked(text, at):
    """What stands behind "&": a sign or a group; and the place behind it."""
    sign = sign_at(text, at)
    if sign == "&":
        return sign, at + 1
    if sign != "" and sign in FIGURES:
        which, end = int(sign), at + 1
    else:
        end = end_of_letters(text, at)
        which = text[at:end]
    if which == "" or sign_at(text, end) != ";":
        raise NoTemplate(end)
    return ("group", which), end + 1


def read_part(text, at):
    """A sign or a group that begins here, and the place behind it."""
    sign = text[at]
    if sign == "&":
        return read_marked(text, at + 1)
    if not is_sign(sign):
        raise NoTemplate(at)
    return sign, at + 1


def read_template(whatever):
    """The list of the parts of a template: texts, and tuples ("group", which); NoTemplate where it is none."""
    if not isinstance(whatever, str):
        raise NoTemplate(0)
    if len(whatever) > MOST_SIGNS:
        raise NoTemplate(MOST_SIGNS)
    parts = []
    at = 0
    while at < len(whatever):
        part, at = read_part(whatever, at)
        if isinstance(part, str) and parts and isinstance(parts[-1], str):
            parts[-1] += part
        else:
            parts.append(part)
    return parts


def number_of(which, names):
    """The number of a group, 0 for the whole way; NoName where there is no such group."""
    if isinstance(which, str):
        if which not in names:
            raise NoName(which)
        return names.index(which) + 1
    if which > len(names):
        raise NoName(which)
    return which


def numbered(parts, names):
    """The parts with the number of its group in the place of each tuple."""
    return [part if isinstance(part, str) else number_of(part[1], names) for part in parts]


def taken(way, text, number):
    """What a group has taken on a way, or the whole way for 0; of a group without a span nothing."""
    span = (way.begin, way.end) if number == 0 else way.spans[number - 1]
    return "" if span is None else text[span[0]:span[1]]


def filled_in(way, text, numbered_parts):
    """The text that parts with numbers give for a way."""
    return "".join([part if isinstance(part, str) else taken(way, text, part) for part in numbered_parts])


def filled(pattern, way, text, parts):
    """The text that the parts of a template give for a way of the pattern in a text."""
    return filled_in(way, text, numbered(parts, pattern.names()))


def replaced(pattern, text, template, *, engine=WALK):
    """The text with what the template gives in the place of each way found."""
    parts = numbered(read_template(template), pattern.names())
    ways = finds(pattern, text, engine=engine)
    return put_together(pieces_around(ways, text), [filled_in(way, text, parts) for way in ways])
