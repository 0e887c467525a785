"""Routes: where one has come to in a code and a text, and what it has in its groups and choices."""

from atomglass.ways import Way


def put_in(things, at, thing):
    """The tuple with this thing in the place of another one."""
    return things[:at] + (thing,) + things[at + 1:]


class Route:
    """A route at a row and a place. It is never changed: going on makes a new one, so going back keeps the old one.

    Its choices are chained, the last one outermost, as routes with many choices have most of them in common.
    """

    def __init__(self, row, place, noted, spans, chain):
        self.row = row
        self.place = place
        self.noted = noted
        self.spans = spans
        self.chain = chain

    def moved(self, row, place):
        """It goes on to this row and place."""
        return Route(row, place, self.noted, self.spans, self.chain)

    def chosen(self, row, choice):
        """It goes on from a fork to this row, by this choice."""
        return Route(row, self.place, self.noted, self.spans, (choice, self.chain))

    def opened(self, group):
        """It goes on to the next row; the begin of the group is noted."""
        noted = put_in(self.noted, group - 1, self.place)
        return Route(self.row + 1, self.place, noted, self.spans, self.chain)

    def closed(self, group):
        """It goes on to the next row; the group has a span from the begin noted last."""
        spans = put_in(self.spans, group - 1, (self.noted[group - 1], self.place))
        return Route(self.row + 1, self.place, self.noted, spans, self.chain)


def first_route(at, groups):
    """The begin of all routes at a place, of a pattern with so many groups."""
    return Route(0, at, (None,) * groups, (None,) * groups, None)


def choices_of(route):
    """The choices of a route, the first one first."""
    choices = []
    chain = route.chain
    while chain is not None:
        choice, chain = chain
        choices.append(choice)
    return tuple(choices[::-1])


def way_of(begin, route):
    """The way of a route that began at this place and has come to done."""
    return Way(begin, route.place, route.spans, choices_of(route))
