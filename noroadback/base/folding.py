"""Webs of loops that are folded, so that at each point each entry begins at most once.

A folded web is a dict from pairs (point, entry) to points; it has each tie there and back. Rows are
led through it from the point 0. Nothing is checked here, and rows can have any length.
"""

from noroadback.base.rows import opposite
from noroadback.base.words import entries_of


def loops(rows):
    """Triples (start, entry, end) that make for each row other than () a loop at the point 0."""
    ties = []
    points = 1
    for row in rows:
        last = len(row) - 1
        for place, entry in enumerate(row):
            start = 0 if place == 0 else points + place - 1
            end = 0 if place == last else points + place
            ties.append((start, entry, end))
        points = points + max(0, last)
    return ties


def kept_point(taken, point):
    """The point that has taken the place of a point."""
    while point in taken:
        point = taken[point]
    return point


def clash(goals, start, entry, end):
    """Two points that a tie makes one, the lesser one first, None if it does not."""
    known = goals.get((start, entry), end)
    if known != end:
        return min(known, end), max(known, end)
    back = goals.get((end, -entry), start)
    if back != start:
        return min(back, start), max(back, start)
    return None


def folded_web(letters, rows):
    """The folded web of the loops that read some rows.

    A row of the letters is in the lot of the rows exactly if it leads the point 0 to itself.
    """
    goals = {}
    taken = {}
    waiting = list(loops(rows))
    while waiting:
        start, entry, end = waiting.pop()
        start = kept_point(taken, start)
        end = kept_point(taken, end)
        pair = clash(goals, start, entry, end)
        if pair is None:
            goals[start, entry] = end
            goals[end, -entry] = start
            continue
        kept, lost = pair
        taken[lost] = kept
        waiting.append((start, entry, end))
        for side in entries_of(letters):
            far = goals.pop((lost, side), None)
            if far is not None:
                goals.pop((far, -side), None)
                waiting.append((lost, side, far))
    return goals


def points_of(goals):
    """The ascending list of the points of a folded web."""
    found = sorted({point for point, _ in goals})
    return found if found else [0]


def led_point(goals, row):
    """The point to which a row leads the point 0, None where the web ends ahead."""
    point = 0
    for entry in row:
        point = goals.get((point, entry))
    return point


def has_all(letters, goals):
    """Whether each letter leads the point 0 to itself."""
    return all([goals.get((0, letter)) == 0 for letter in range(1, letters + 1)])


def rank_of(goals):
    """The rank of a folded web."""
    return len(goals) // 2 - len(points_of(goals)) + 1


def shortest_roads(letters, goals):
    """A dict from each point to a shortest row that leads the point 0 there, all in one tree."""
    roads = {0: ()}
    reached = [0]
    done = 0
    while done < len(reached):
        point = reached[done]
        done += 1
        for entry in entries_of(letters):
            goal = goals.get((point, entry))
            if goal is not None and goal not in roads:
                roads[goal] = roads[point] + (entry,)
                reached.append(goal)
    return roads


def base_of(letters, goals):
    """Rows that make the lot, one for each tie outside a tree of shortest roads."""
    roads = shortest_roads(letters, goals)
    base = []
    for point, entry in goals:
        along = roads[point] + (entry,)
        home = roads[goals[point, entry]]
        if entry > 0 and along != home and home + (-entry,) != roads[point]:
            base.append(along + opposite(home))
    return tuple(base)


def permutation(letter, goals, points, size):
    """A permutation of so many places that goes as the letter does where the letter leads.

    The places are those of the points; there can be more of them.
    """
    places = {point: place for place, point in enumerate(points)}
    row = [places.get(goals.get((point, letter))) for point in points] + [None] * (size - len(points))
    used = set(row)
    free = [place for place in range(size) if place not in used]
    for place in range(size):
        if row[place] is None:
            # The last free place is taken: one point alone is exchanged with the new place.
            row[place] = free.pop()
    return tuple(row)


def permutations_of(letters, goals):
    """Permutations, one for each letter, that go as a folded web does, of at least two places."""
    points = points_of(goals)
    size = max(2, len(points))
    return tuple([permutation(letter, goals, points, size) for letter in range(1, letters + 1)])
