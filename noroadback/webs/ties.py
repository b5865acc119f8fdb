"""Ties: tuples of pairs (begin, end) of points, numbered from 1 on. The opposite of a number is the tie gone back.

Nothing is checked here. Roads are tuples of directed ties and can have any length.
"""

from noroadback.base.integers import is_integer
from noroadback.base.rows import opposite, product_of
from noroadback.base.words import entries_of


def begin_of(ties, tie):
    """The point at which a directed tie begins."""
    return ties[tie - 1][0] if tie > 0 else ties[-tie - 1][1]


def end_of(ties, tie):
    """The point at which a directed tie ends."""
    return begin_of(ties, -tie)


def points_in(ties):
    """The ascending list of all points."""
    return sorted({point for pair in ties for point in pair})


def beginnings_at(ties, point):
    """The ascending list of the directed ties that begin at a point."""
    return [tie for tie in entries_of(len(ties)) if begin_of(ties, tie) == point]


def is_road_in(ties, value):
    """Whether the value is a road."""
    if not isinstance(value, tuple):
        return False
    if not all([is_integer(tie) and 1 <= abs(tie) <= len(ties) for tie in value]):
        return False
    return all([end_of(ties, one) == begin_of(ties, other) for one, other in zip(value, value[1:])])


def is_round_in(ties, road):
    """Whether a road ends where it begins."""
    return road == () or begin_of(ties, road[0]) == end_of(ties, road[-1])


def parts_by(ties, chosen):
    """A dict from each point to the least point with which some ties let it hang together."""
    parts = {point: point for point in points_in(ties)}
    for tie in chosen:
        one, other = parts[ties[tie - 1][0]], parts[ties[tie - 1][1]]
        kept, lost = min(one, other), max(one, other)
        parts = {point: kept if part == lost else part for point, part in parts.items()}
    return parts


def tree_of(ties, chosen):
    """The list of the ties, of some ascending ones, that close no round with those ahead of them."""
    tree = []
    for tie in chosen:
        parts = parts_by(ties, tree)
        if parts[ties[tie - 1][0]] != parts[ties[tie - 1][1]]:
            tree.append(tie)
    return tree


def is_forest_in(ties, chosen):
    """Whether some ties close no round."""
    return len(tree_of(ties, chosen)) == len(chosen)


def pieces_in(ties, chosen):
    """The tuple of the pieces in which some ascending ties hang together."""
    parts = parts_by(ties, chosen)
    pieces = {}
    for tie in chosen:
        pieces.setdefault(parts[ties[tie - 1][0]], []).append(tie)
    # Keys stay in the sequence in which they came, which is that of the least ties.
    return tuple([tuple(piece) for piece in pieces.values()])


def least_tree_of(ties):
    """The list of the ties of the least tree."""
    return tree_of(ties, list(range(1, len(ties) + 1)))


def roads_from(ties, chosen, start):
    """A dict from the points that some ties of a forest lead to from a point on, to the roads that lead there."""
    roads = {start: ()}
    reached = [start]
    done = 0
    while done < len(reached):
        point = reached[done]
        done += 1
        for tie in beginnings_at(ties, point):
            goal = end_of(ties, tie)
            if abs(tie) in chosen and goal not in roads:
                roads[goal] = roads[point] + (tie,)
                reached.append(goal)
    return roads


def base_rounds_of(ties):
    """The rounds at the point 0 that the ties outside the least tree close, a tuple."""
    tree = least_tree_of(ties)
    roads = roads_from(ties, tree, 0)
    return tuple([
        product_of((roads[begin], (tie,), opposite(roads[end])))
        for tie, (begin, end) in enumerate(ties, start=1) if tie not in tree
    ])


def rank_of_ties(ties):
    """The rank of a web."""
    return len(ties) - len(points_in(ties)) + 1


def reading_of(words, road):
    """The product of the words of the ties of a road."""
    return product_of([words[tie - 1] if tie > 0 else opposite(words[-tie - 1]) for tie in road])
