"""Threads: the first way and all ends, without going through any row twice at one place.

Where a code has no row back, how a route goes on hangs on its row and its place alone, not on how it came there. So
of the routes that come to one pair of a row and a place only the first one is followed; what the later ones would
find there is known by then. Within looks and onces it is likewise.
"""

from atomglass.codes import reads_of
from atomglass.edges import edge_holds
from atomglass.errors import Unfit
from atomglass.places import check_place
from atomglass.routes import first_route, way_of


class Crowd:
    """All threads of one asking.

    For each pair that a first route was looked for from, goals has the place at which that route ends, or None where
    it was found to fail, and follows the pair to which it goes on. Behinds has, for each row of a look behind, all
    pairs within it to which some route comes.
    """

    def __init__(self, rows, reads, text):
        self.rows = rows
        self.reads = reads
        self.text = text
        self.goals = {}
        self.follows = {}
        self.behinds = {}
        self.flooded = 0

    def how_many(self):
        """How many rows were entered so far."""
        return len(self.goals) + self.flooded

    def goes_on(self, pair):
        """The pairs to which threads go on from one, the first one last; none where they fail or are at an end."""
        number, place = pair
        row = self.rows[number]
        word = row[0]
        if word == "read":
            fits = place < len(self.text) and self.text[place] in self.reads[number]
            return [(number + 1, place + 1)] if fits else []
        if word == "fork":
            return [(row[2], place), (row[1], place)]
        if word == "go":
            return [(row[1], place)]
        if word in ("open", "close"):
            return [(number + 1, place)]
        if word == "edge":
            return [(number + 1, place)] if edge_holds(row[1], self.text, place) else []
        if word == "look":
            return [(row[2], place)] if self.look_holds(pair, row[1]) else []
        if word == "once":
            goal = self.goal_of((number + 1, place))
            return [] if goal is None else [(row[1], goal)]
        return []

    def look_holds(self, pair, way):
        """Whether threads go on from a look."""
        if way in ("ahead", "noahead"):
            found = self.goal_of((pair[0] + 1, pair[1])) is not None
        else:
            found = self.found_behind(pair)
        return found if way in ("ahead", "behind") else not found

    def found_behind(self, pair):
        """Whether some route within a look, from here or from ahead of it in the text, comes to its kept just here."""
        number, place = pair
        if number not in self.behinds:
            begins = [(number + 1, begin) for begin in range(len(self.text) + 1)]
            self.behinds[number] = self.flood(begins)
        kept = self.rows[number][2] - 1
        return (kept, place) in self.behinds[number]

    def flood(self, begins):
        """All pairs to which some route from these comes, as a dict."""
        seen = {}
        pile = list(begins)
        while pile:
            pair = pile.pop()
            if pair not in seen:
                seen[pair] = True
                pile.extend(self.goes_on(pair))
        self.flooded += len(seen)
        return seen

    def goal_of(self, begin):
        """The place at which the first route from a pair comes to done or to the kept of its part, or None.

        A pair of the trail is left by going back only when all that follows from it has failed; so one that is met
        again, and has no goal, is not tried again.
        """
        trail = []
        pile = [(begin, 0)]
        while pile:
            pair, length = pile.pop()
            del trail[length:]
            trail.append(pair)
            if pair not in self.goals:
                self.enter(pair)
                pile.extend([(following, length + 1) for following in self.goes_on(pair)])
            if self.goals[pair] is not None:
                self.note(trail, self.goals[pair])
                return self.goals[pair]
        return None

    def enter(self, pair):
        """Enters a pair: its goal is known at once where it is an end."""
        at_end = self.rows[pair[0]][0] in ("done", "kept")
        self.goals[pair] = pair[1] if at_end else None

    def note(self, trail, goal):
        """Notes that from each pair of a trail the first route goes on along it to the goal."""
        for pair, following in zip(trail, trail[1:]):
            self.goals[pair] = goal
            self.follows[pair] = following

    def followed(self, route):
        """One step of the first route, where its goal is known."""
        row = self.rows[route.row]
        word = row[0]
        # The route within a once is a piece of the whole; behind its kept the rows go on.
        if word in ("once", "kept"):
            return route.moved(route.row + 1, route.place)
        if word == "open":
            return route.opened(row[1])
        if word == "close":
            return route.closed(row[1])
        number, place = self.follows[(route.row, route.place)]
        if word == "fork":
            return route.chosen(number, 0 if number == row[1] else 1)
        return route.moved(number, place)


class Threads:
    """The first way, and all ends, of a pattern without backs in a text."""

    def __init__(self, pattern, text):
        self.rows = pattern.code()
        if any([row[0] == "back" for row in self.rows]):
            raise Unfit("back")
        self.reads = reads_of(self.rows)
        self.groups = pattern.groups
        self.text = text
        self.entered = 0

    def first(self, at):
        """The first way at a place, or None."""
        check_place(at, self.text)
        crowd = Crowd(self.rows, self.reads, self.text)
        goal = crowd.goal_of((0, at))
        self.entered = crowd.how_many()
        if goal is None:
            return None
        route = first_route(at, self.groups)
        while self.rows[route.row][0] != "done":
            route = crowd.followed(route)
        return way_of(at, route)

    def ends(self, at):
        """The rising list of all places at which some way from this place ends."""
        check_place(at, self.text)
        crowd = Crowd(self.rows, self.reads, self.text)
        reached = crowd.flood([(0, at)])
        self.entered = crowd.how_many()
        done = len(self.rows) - 1
        return sorted([place for number, place in reached if number == done])
