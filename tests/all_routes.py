"""Promises 21 to 23 said another way: routes as generators within generators, each row a call of its own.

The rows entered are written down one by one, so that their number is the number of steps.
"""

from tests.laid_codes import twin
from tests.things import FIGURES, GREAT, ORDER, SMALL


class TooFar(Exception):
    """More rows were entered than the test wants to wait for."""


def is_word_at(text, at):
    return 0 <= at < len(text) and text[at] in SMALL + GREAT + FIGURES + "_"


def edge_here(kind, text, at):
    return {
        "start": at == 0,
        "end": at == len(text),
        "rowstart": at == 0 or text[at - 1:at] == "\n",
        "rowend": at == len(text) or text[at:at + 1] == "\n",
        "word": [is_word_at(text, at - 1), is_word_at(text, at)].count(True) == 1,
        "inner": [is_word_at(text, at - 1), is_word_at(text, at)].count(True) != 1,
    }[kind]


class Routes:
    """The routes of a code in a text; a route's standing is a tuple (place, begins, spans, choices)."""

    def __init__(self, code, text, bound=200000):
        self.code = code
        self.text = text
        self.bound = bound
        self.entered = []

    def held(self, rows, place):
        if place >= len(self.text):
            return False
        number = ORDER.index(self.text[place])
        return any(ORDER.index(low) <= number <= ORDER.index(high) for low, high in rows)

    def taken_again(self, span, place, alike):
        for sign, at in zip(self.text[span[0]:span[1]], range(place, len(self.text) + 1)):
            here = self.text[at:at + 1]
            if here != sign and not (alike and here == twin(sign)):
                return None
        end = place + span[1] - span[0]
        return end if end <= len(self.text) else None

    def go(self, row, standing):
        """All standings with which routes from a row on come to their done or kept, in order."""
        place, begins, spans, choices = standing
        self.entered.append((row, place))
        if len(self.entered) > self.bound:
            raise TooFar
        word, *things = self.code[row]
        if word in ("done", "kept"):
            yield standing
        elif word == "read":
            if self.held(things[0], place):
                yield from self.go(row + 1, (place + 1, begins, spans, choices))
        elif word == "fork":
            for choice in (0, 1):
                yield from self.go(things[choice], (place, begins, spans, choices + (choice,)))
        elif word == "go":
            yield from self.go(things[0], standing)
        elif word == "open":
            yield from self.go(row + 1, (place, {**begins, things[0]: place}, spans, choices))
        elif word == "close":
            span = (begins[things[0]], place)
            yield from self.go(row + 1, (place, begins, {**spans, things[0]: span}, choices))
        elif word == "edge":
            if edge_here(things[0], self.text, place):
                yield from self.go(row + 1, standing)
        elif word == "back":
            if things[0] in spans:
                end = self.taken_again(spans[things[0]], place, things[1])
                if end is not None:
                    yield from self.go(row + 1, (end, begins, spans, choices))
        elif word == "once":
            for inner in self.go(row + 1, standing):
                yield from self.go(things[0], inner)
                break
        elif self.look(row, standing, things[0]):
            yield from self.go(things[1], standing)

    def look(self, row, standing, way):
        place = standing[0]
        begins = range(place, -1, -1) if "behind" in way else [place]
        for begin in begins:
            for inner in self.go(row + 1, (begin, *standing[1:])):
                if "ahead" in way or inner[0] == place:
                    return not way.startswith("no")
        return way.startswith("no")


def told_ways(code, text, at, groups, bound=200000):
    """All ways at a place as tuples (end, spans, choices), and the steps behind the first one and behind all."""
    routes = Routes(code, text, bound)
    ways, first_steps = [], None
    for end, _, spans, choices in routes.go(0, (at, {}, {}, ())):
        ways.append((end, tuple(spans.get(number) for number in range(1, groups + 1)), choices))
        if first_steps is None:
            first_steps = len(routes.entered)
    steps = len(routes.entered)
    return ways, steps if first_steps is None else first_steps, steps, routes.entered
