"""Texts looked through: the ways found one behind another, and the pieces around them."""

from atomglass.errors import Unfit
from atomglass.places import check_place
from atomglass.table import Table
from atomglass.threads import Threads
from atomglass.walker import Walker
from atomglass.ways import Way

WALK = "walk"
THREADS = "threads"
TABLE = "table"


class TableWays:
    """A table that tells ways, as walkers and threads do: of these only the begin and the end are right."""

    def __init__(self, pattern, text):
        self.text = text
        self.table = Table(pattern)

    def first(self, at):
        """The first way at a place, or None."""
        end = self.table.stop(self.text, at)
        return None if end is None else Way(at, end, (), ())


def check_asked(text, start, engine, engines):
    """Refuses what is no place to begin from, then what is none of some engines."""
    check_place(start, text)
    if not isinstance(engine, str) or engine not in engines:
        raise Unfit(engine)


def machine_of(engine, pattern, text):
    """What tells the first way at a place."""
    if engine == THREADS:
        return Threads(pattern, text)
    if engine == TABLE:
        return TableWays(pattern, text)
    return Walker(pattern, text)


def next_way(machine, text, place):
    """The first way at the least begin from a place on that has one, or None."""
    for begin in range(place, len(text) + 1):
        way = machine.first(begin)
        if way is not None:
            return way
    return None


def place_behind(way):
    """From where to look on behind a way; behind an empty one a place farther, as it would be found there again."""
    return way.end if way.end > way.begin else way.end + 1


def found_by(machine, text, start):
    """All ways that are found one behind another."""
    told = []
    way = next_way(machine, text, start)
    while way is not None:
        told.append(way)
        way = next_way(machine, text, place_behind(way))
    return told


def finds(pattern, text, *, start=0, engine=WALK):
    """The list of the ways found in a text, one behind another."""
    check_asked(text, start, engine, (WALK, THREADS))
    return found_by(machine_of(engine, pattern, text), text, start)


def spots(pattern, text, *, start=0, engine=TABLE):
    """The begin and the end of each of the ways found in a text."""
    check_asked(text, start, engine, (WALK, THREADS, TABLE))
    return [(way.begin, way.end) for way in found_by(machine_of(engine, pattern, text), text, start)]


def pieces_around(ways, text):
    """The texts ahead of, between and behind ways that were found in a text."""
    begins = [0] + [way.end for way in ways]
    ends = [way.begin for way in ways] + [len(text)]
    return [text[begin:end] for begin, end in zip(begins, ends)]


def pieces(pattern, text, *, engine=WALK):
    """The texts ahead of, between and behind the ways found in a text."""
    return pieces_around(finds(pattern, text, engine=engine), text)


def put_together(pieces, texts):
    """The pieces with the texts that stand between them, one after another, as one text."""
    told = []
    for number, piece in enumerate(pieces):
        told.append(piece)
        told.extend(texts[number:number + 1])
    return "".join(told)
