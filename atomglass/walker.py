"""The walker: it goes through the routes of a code one after another. That is the meaning of a pattern."""

from atomglass.codes import reads_of
from atomglass.edges import edge_holds
from atomglass.errors import TooMuch
from atomglass.places import check_place
from atomglass.routes import first_route, way_of

MOST_STEPS = 20000


class Trip:
    """One asking of a walker: the steps that it took so far, and how many it may take at most."""

    def __init__(self, rows, reads, text, most):
        self.rows = rows
        self.reads = reads
        self.text = text
        self.most = most
        self.steps = 0

    def next_end(self, pile):
        """Goes on with the routes on a pile, the last one first, till one comes to done or kept; tells it, or None.

        What is left untried stays on the pile.
        """
        while pile:
            route = pile.pop()
            if self.steps == self.most:
                raise TooMuch(self.most)
            self.steps += 1
            row = self.rows[route.row]
            if row[0] in ("done", "kept"):
                return route
            pile.extend(self.goes_on(route, row))
        return None

    def goes_on(self, route, row):
        """The routes as which one goes on from its row, the first one last, as on a pile; none where it fails."""
        word = row[0]
        if word == "read":
            return self.behind_read(route)
        if word == "fork":
            return [route.chosen(row[2], 1), route.chosen(row[1], 0)]
        if word == "go":
            return [route.moved(row[1], route.place)]
        if word == "open":
            return [route.opened(row[1])]
        if word == "close":
            return [route.closed(row[1])]
        if word == "once":
            return self.behind_once(route, row[1])
        if word == "look":
            return [route.moved(row[2], route.place)] if self.look_holds(route, row[1]) else []
        if word == "back":
            return self.behind_back(route, row[1], row[2])
        return [route.moved(route.row + 1, route.place)] if edge_holds(row[1], self.text, route.place) else []

    def behind_read(self, route):
        """Where a route goes on from a read."""
        place = route.place
        if place < len(self.text) and self.text[place] in self.reads[route.row]:
            return [route.moved(route.row + 1, place + 1)]
        return []

    def behind_back(self, route, group, alike):
        """Where a route goes on from a back."""
        span = route.spans[group - 1]
        if span is None:
            return []
        taken = self.text[span[0]:span[1]]
        end = route.place + len(taken)
        here = self.text[route.place:end]
        # Signs are the same or twins just where they are the same when small.
        fits = taken.lower() == here.lower() if alike else taken == here
        return [route.moved(route.row + 1, end)] if fits else []

    def behind_once(self, route, row):
        """Where a route goes on from a once: as the first one within it that comes to its kept."""
        found = self.next_end([route.moved(route.row + 1, route.place)])
        return [] if found is None else [found.moved(row, found.place)]

    def look_holds(self, route, way):
        """Whether a route goes on from a look."""
        if way in ("ahead", "noahead"):
            found = self.next_end([route.moved(route.row + 1, route.place)]) is not None
        else:
            found = self.found_behind(route)
        return found if way in ("ahead", "behind") else not found

    def found_behind(self, route):
        """Whether some route within a look, from here or from ahead of it in the text, comes to its kept just here."""
        for begin in range(route.place, -1, -1):
            pile = [route.moved(route.row + 1, begin)]
            found = self.next_end(pile)
            while found is not None and found.place != route.place:
                found = self.next_end(pile)
            if found is not None:
                return True
        return False


def first_way(trip, at, pile):
    """The first way from a place, or None."""
    route = trip.next_end(pile)
    return None if route is None else way_of(at, route)


def all_ways(trip, at, pile):
    """The list of all ways from a place, in their order."""
    told = []
    route = trip.next_end(pile)
    while route is not None:
        told.append(way_of(at, route))
        route = trip.next_end(pile)
    return told


def all_steps(trip, at, pile):
    """How many steps all routes from a place take; the ways are not kept, as they may be very many."""
    while trip.next_end(pile) is not None:
        pass
    return trip.steps


class Walker:
    """The ways of a pattern in a text, found by going through the routes in their order."""

    def __init__(self, pattern, text):
        self.text = text
        self.steps = 0
        self.busy = False
        self.rows = pattern.code()
        self.reads = reads_of(self.rows)
        self.groups = pattern.groups

    def first(self, at, *, most=MOST_STEPS):
        """The first way at a place, or None."""
        return self.asked(first_way, at, most)

    def ways(self, at, *, most=MOST_STEPS):
        """The list of all ways at a place, in their order."""
        return self.asked(all_ways, at, most)

    def toil(self, at, *, most=MOST_STEPS):
        """In how many steps all routes from a place are gone through."""
        return self.asked(all_steps, at, most)

    def asked(self, question, at, most):
        """What a question tells of the routes from a place; steps and busy are right behind a refusal, too."""
        check_place(at, self.text)
        trip = Trip(self.rows, self.reads, self.text, most)
        pile = [first_route(at, self.groups)]
        self.busy = True
        try:
            return question(trip, at, pile)
        finally:
            self.steps = trip.steps
            self.busy = False
