"""Rows that are put behind one another, and so shortened, until none can be shortened.

A step (goal, piece) puts the row of the number `piece` behind that of the number `goal`, as
`put_behind` does. What it leaves makes the same lot.
"""

from noroadback.base.rows import common_end


def meetings(sides, goals, pieces):
    """Triples (goal, piece, common): rows of two numbers that have so many last entries in common, at least one."""
    found = []
    for goal in goals:
        last = sides[goal][-1:]
        for piece in pieces:
            # Most rows end with unlike entries, which is seen fast.
            if last != "" and sides[piece][-1:] == last and abs(goal) != abs(piece):
                found.append((goal, piece, common_end(sides[goal], sides[piece])))
    return found


def shortening_step(sides, ways, goals, pieces):
    """The step that makes a row of the goals shorter by most, None if there is none.

    Of equal ones it is a step with a short way of the piece, so that ways stay short.
    """
    best = None
    most = (0, 0)
    for goal, piece, common in meetings(sides, goals, pieces):
        gain = (2 * common - len(sides[piece]), -len(ways.get(piece, ())))
        if gain > most:
            best = (goal, -piece)
            most = gain
    return best


def level_step(sides, goals, pieces):
    """A step that leaves a row of the goals as long as it is, None if there is none.

    The entries that come in are, read from behind, a lesser row than those that go: so steps of
    this kind come to an end, and what no step of both kinds is left for is a base of its lot.
    """
    for goal, piece, common in meetings(sides, goals, pieces):
        if 2 * common == len(sides[piece]):
            coming = sides[-piece][common:]
            going = sides[piece][common:]
            if coming[::-1] < going[::-1]:
                return goal, -piece
    return None


def next_step(sides, ways, numbers):
    """The next step on the way to a base, None at its end."""
    step = shortening_step(sides, ways, numbers, numbers)
    return level_step(sides, numbers, numbers) if step is None else step
