"""A plain pattern judged: whether two unlike routes ever come to one row behind one text.

Two routes are followed at once through one text. Where they stand is a tuple: of one row as long as they go alike, of
two rows from the fork on at which they part. What becomes of them hangs on these rows alone.
"""

from atomglass.errors import Unfit
from atomglass.plain import plain_code
from atomglass.sets import common, first_held

MOST_JUDGED = 60


def onward(rows, number):
    """Where a route goes on from a row without reading: tuples of a row and the choices that lead there."""
    row = rows[number]
    word = row[0]
    if word == "fork":
        return [(row[1], (0,)), (row[2], (1,))]
    if word == "go":
        return [(row[1], ())]
    if word in ("open", "close"):
        return [(number + 1, ())]
    return []


class Fellows:
    """Two routes through a plain code; a step is a tuple: where they stand then, the choices of each, the sign read."""

    def __init__(self, rows):
        self.rows = rows
        self.meetings = {}

    def common_sign(self, one, other):
        """The first sign with which both go on from these rows, or None."""
        if self.rows[one][0] != "read" or self.rows[other][0] != "read":
            return None
        if (one, other) not in self.meetings:
            self.meetings[(one, other)] = first_held(common(self.rows[one][1], self.rows[other][1]))
        return self.meetings[(one, other)]

    def steps_alike(self, number):
        """The steps of two routes that have not parted."""
        row = self.rows[number]
        steps = [((target,), choices, choices, "") for target, choices in onward(self.rows, number)]
        if row[0] == "fork":
            steps.append(((row[1], row[2]), (0,), (1,), ""))
        sign = self.common_sign(number, number)
        if sign is not None:
            steps.append(((number + 1,), (), (), sign))
        return steps

    def steps_apart(self, one, other):
        """The steps of two routes that have parted: one of them goes on alone, or both read the same sign."""
        steps = [((target, other), choices, (), "") for target, choices in onward(self.rows, one)]
        steps.extend([((one, target), (), choices, "") for target, choices in onward(self.rows, other)])
        sign = self.common_sign(one, other)
        if sign is not None:
            steps.append(((one + 1, other + 1), (), (), sign))
        return steps

    def steps_from(self, stand):
        """All steps from where they stand."""
        if len(stand) == 1:
            return self.steps_alike(stand[0])
        return self.steps_apart(stand[0], stand[1])

    def all_from(self, begin):
        """All stands that two routes come to from one, each with the stand ahead of it and the step that led on."""
        came = {begin: None}
        waiting = [begin]
        looked_at = 0
        while looked_at < len(waiting):
            stand = waiting[looked_at]
            looked_at += 1
            for following, one, other, signs in self.steps_from(stand):
                if following not in came:
                    came[following] = (stand, one, other, signs)
                    waiting.append(following)
        return came


def led_to(came, stand):
    """The signs read, and the choices of each of the two, on the way from the begin to a stand."""
    text, ones, others = [], [], []
    while came[stand] is not None:
        stand, one, other, signs = came[stand]
        text.append(signs)
        ones.extend(one)
        others.extend(other)
    return "".join(text[::-1]), tuple(ones[::-1]), tuple(others[::-1])


def wild_loop(fellows, came):
    """What tells that a pattern is wild, or None.

    Where two unlike routes lead from a row back to it they part at some fork; from this fork there are then two such
    routes, too, as both go on alike from the row to the fork. So it is enough to look at forks.
    """
    for number, row in enumerate(fellows.rows):
        if row[0] != "fork" or (number,) not in came:
            continue
        loop = fellows.all_from((number,))
        if (number, number) in loop:
            head, lead, fellow = led_to(came, (number,))
            body, one, other = led_to(loop, (number, number))
            return ("wild", head, body, number, lead, one, other)
    return None


def judged(pattern):
    """("wild", ..), ("twice", ..) or ("line", pairs), with what tells it."""
    rows = plain_code(pattern)
    if len(rows) > MOST_JUDGED:
        raise Unfit("long")
    fellows = Fellows(rows)
    came = fellows.all_from((0,))
    found = wild_loop(fellows, came)
    if found is not None:
        return found
    parted = [stand for stand in came if len(stand) == 2]
    for stand in parted:
        if stand[0] == stand[1]:
            text, one, other = led_to(came, stand)
            return ("twice", text, stand[0], one, other)
    return ("line", sorted({(min(stand), max(stand)) for stand in parted}))
