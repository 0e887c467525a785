"""Tables: where the first way ends, told by states that are found once and kept."""

from atomglass.places import check_place
from atomglass.plain import PlainCode, rising

MOST_STATES = 40


class Table:
    """Where a plain pattern's ways end, with at most so many states kept.

    A state is a stand, and whether it is cut: then the routes behind the first one that has come to done are left
    out, as only those ahead of it may still be the first way. For each state the table keeps which stand comes behind
    which sign.
    """

    def __init__(self, pattern, *, most=MOST_STATES):
        self.plain = PlainCode(pattern)
        self.most = most
        self.states = {}

    def stop(self, text, at):
        """Where the first way at a place ends, or None."""
        check_place(at, text)
        found = None
        stand = self.cut_behind_done(self.plain.first_stand())
        for place in range(at, len(text) + 1):
            if self.plain.has_done(stand):
                found = place
            if stand == () or place == len(text):
                break
            stand = self.behind(True, stand, text[place])
        return found

    def takes(self, text):
        """Whether some way at place 0 ends behind the last sign."""
        stand = rising(self.plain.first_stand())
        for sign in text:
            stand = self.behind(False, stand, sign)
        return self.plain.has_done(stand)

    def kept(self):
        """How many states are kept."""
        return len(self.states)

    def cut_behind_done(self, stand):
        """The stand without the rows behind done."""
        if not self.plain.has_done(stand):
            return stand
        return stand[:stand.index(self.plain.done) + 1]

    def behind(self, is_cut, stand, sign):
        """The stand behind one more sign, looked up or found out."""
        state = (is_cut, stand)
        if state in self.states and sign in self.states[state]:
            return self.states[state][sign]
        following = self.plain.next_stand(stand, sign)
        following = self.cut_behind_done(following) if is_cut else rising(following)
        self.keep(state, sign, following)
        return following

    def keep(self, state, sign, following):
        """Keeps what comes behind a state; where there would be too many states, all others go."""
        if state not in self.states:
            if len(self.states) >= self.most:
                self.states.clear()
            self.states[state] = {}
        self.states[state][sign] = following
