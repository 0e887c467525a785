"""Rows of signs: tuples of pairs (low, high), each holding the signs from low to high."""

from atomglass.signs import SIGNS, rank, sign_of, twin


def held_ranks(rows):
    """For each rank in turn, whether the rows hold its sign."""
    held = [False] * len(SIGNS)
    for low, high in rows:
        begin, end = rank(low), rank(high) + 1
        held[begin:end] = [True] * (end - begin)
    return held


def rows_of(held):
    """The settled rows of just those signs whose ranks are held."""
    spans = []
    for number, is_held in enumerate(held):
        if not is_held:
            continue
        if number > 0 and held[number - 1]:
            spans[-1] = (spans[-1][0], number)
        else:
            spans.append((number, number))
    return tuple([(sign_of(low), sign_of(high)) for low, high in spans])


def settled(rows):
    """The settled rows that hold just the same signs."""
    return rows_of(held_ranks(rows))


def turned(rows):
    """The rows of all signs that these don't hold."""
    return rows_of([not is_held for is_held in held_ranks(rows)])


def joined(rows, others):
    """What the one or the other rows hold."""
    return rows_of([one or other for one, other in zip(held_ranks(rows), held_ranks(others))])


def common(rows, others):
    """What both rows hold."""
    return rows_of([one and other for one, other in zip(held_ranks(rows), held_ranks(others))])


def with_twins(rows):
    """What the rows hold, and the twins of these."""
    held = held_ranks(rows)
    return rows_of([held[rank(sign)] or held[rank(twin(sign))] for sign in SIGNS])


def holds(rows, sign):
    """Whether the rows hold a sign."""
    number = rank(sign)
    return any([rank(low) <= number <= rank(high) for low, high in rows])


def signs_held(rows):
    """All signs that settled rows hold, as a text."""
    return "".join([SIGNS[rank(low):rank(high) + 1] for low, high in rows])


def first_held(rows):
    """The sign of the least rank that the rows hold, or None."""
    lows = [rank(low) for low, high in rows]
    return sign_of(min(lows)) if lows else None


def marks(many):
    """The first sign of each class, rising by rank; signs of one class are held by just the same rows."""
    tables = [held_ranks(rows) for rows in many]
    seen = set()
    firsts = []
    for number, sign in enumerate(SIGNS):
        held_by = tuple([held[number] for held in tables])
        if held_by not in seen:
            seen.add(held_by)
            firsts.append(sign)
    return firsts
