"""Promise 34 said another way: all routes behind a text, each with its choices, written out one by one."""

from tests.things import ORDER


def reads(rows, sign):
    return any(ORDER.index(low) <= ORDER.index(sign) <= ORDER.index(high) for low, high in rows)


def spread(code, routes):
    """All routes as which some go on without reading, these too: a list of tuples (row, choices)."""
    told, waiting = [], list(routes)
    while waiting:
        row, choices = waiting.pop()
        told.append((row, choices))
        word, *things = code[row]
        if word == "fork":
            waiting += [(things[0], choices + (0,)), (things[1], choices + (1,))]
        elif word == "go":
            waiting.append((things[0], choices))
        elif word in ("open", "close"):
            waiting.append((row + 1, choices))
    return told


def one_more(code, routes, sign):
    """All routes that some become behind one sign more."""
    return spread(code, [(row + 1, choices) for row, choices in routes
                         if code[row][0] == "read" and reads(code[row][1], sign)])


def behind(code, routes, text):
    """All routes that some become behind a text."""
    routes = spread(code, routes)
    for sign in text:
        routes = one_more(code, routes, sign)
    return routes


def unlike(one, other):
    shorter = min(len(one), len(other))
    return one[:shorter] != other[:shorter]


def unlike_pairs(routes):
    """The pairs of rows, the lesser one first, at which two unlike routes are."""
    return {tuple(sorted((row, fellow))) for row, choices in routes for fellow, others in routes
            if unlike(choices, others)}


def all_unlike_pairs(code, signs):
    """The pairs of rows at which two unlike routes are behind some text over some signs, of whatever length.

    Where no two routes are at one row, what follows a text hangs on the rows and on which two are unlike.
    """
    waiting, seen, pairs = [behind(code, [(0, ())], "")], set(), set()
    while waiting:
        routes = waiting.pop()
        rows, told = frozenset(row for row, _ in routes), frozenset(unlike_pairs(routes))
        assert len(rows) == len(routes), "two routes are at one row"
        if (rows, told) not in seen:
            seen.add((rows, told))
            pairs |= told
            waiting += [one_more(code, routes, sign) for sign in signs]
    return pairs


def goes_round_twice(code, row, text):
    """Whether two unlike routes lead from a row through a text back to it."""
    back = [choices for at, choices in behind(code, [(row, ())], text) if at == row]
    return any(unlike(one, other) for one in back for other in back)


def followed(code, row, text, choices):
    """The rows to which just these choices lead from a row through just this text; [] where they don't."""
    choices, at = list(choices), 0
    rows = [row]
    while True:
        word, *things = code[row]
        if word == "fork":
            if not choices:
                break
            row = things[choices.pop(0)]
        elif word == "go":
            row = things[0]
        elif word in ("open", "close"):
            row += 1
        elif word == "read" and at < len(text):
            if not reads(things[0], text[at]):
                return []
            row, at, rows = row + 1, at + 1, []
        else:
            break
        # Only the rows behind the last sign and the last choice are where the route is.
        rows = [row] if word == "fork" else rows + [row]
    return rows if at == len(text) and not choices else []
