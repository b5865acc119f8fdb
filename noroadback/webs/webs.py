"""Webs: ties between points that all hang together, their trees, roads, rounds and namings."""

from noroadback.base.folding import folded_web, has_all
from noroadback.base.integers import is_integer, is_within
from noroadback.base.rows import opposite, reduced, ring_of, times
from noroadback.base.words import is_long_word
from noroadback.errors import InvalidNumber, InvalidOperation, InvalidRoad, InvalidWeb
from noroadback.webs.ties import (
    base_rounds_of, begin_of, beginnings_at, end_of, is_forest_in, is_road_in, is_round_in, least_tree_of, pieces_in,
    points_in, rank_of_ties, reading_of, roads_from,
)

MAX_TIES = 24
MAX_RANK = 5


def are_ties(value):
    """Whether the value is a tuple of pairs of integers that tells a web."""
    if not isinstance(value, tuple) or not 1 <= len(value) <= MAX_TIES:
        return False
    if not all([isinstance(pair, tuple) and len(pair) == 2 for pair in value]):
        return False
    # Ties that hang together have at most one point more than there are ties.
    if not all([is_within(point, 0, len(value)) for pair in value for point in pair]):
        return False
    points = points_in(value)
    return points == list(range(len(points))) and len(pieces_in(value, list(range(1, len(value) + 1)))) == 1


class Web:
    """A web. It never changes."""

    def __init__(self, ties):
        if not are_ties(ties):
            raise InvalidWeb("no tuple of 1 to 24 pairs of points that tells a web")
        self._ties = ties

    @property
    def ties(self):
        """The pairs (begin, end)."""
        return self._ties

    @property
    def points(self):
        """The number of the points."""
        return len(points_in(self._ties))

    @property
    def size(self):
        """The number of the ties."""
        return len(self._ties)

    @property
    def rank(self):
        """The number of the ties less that of the points, and 1 more."""
        return rank_of_ties(self._ties)

    def begin(self, tie):
        """The point at which a directed tie begins."""
        check_directed(self, tie)
        return begin_of(self._ties, tie)

    def end(self, tie):
        """The point at which a directed tie ends."""
        check_directed(self, tie)
        return end_of(self._ties, tie)

    def beginnings(self, point):
        """The ascending tuple of the directed ties that begin at a point."""
        check_point(self, point)
        return tuple(beginnings_at(self._ties, point))

    def loose_points(self):
        """The ascending tuple of the points at which just one directed tie begins."""
        return tuple([point for point in points_in(self._ties) if len(beginnings_at(self._ties, point)) == 1])

    def is_road(self, value):
        """Whether the value is a road of the web."""
        return is_road_in(self._ties, value)

    def tight(self, road):
        """The road that is left when opposites side by side are struck out."""
        check_road(self, road)
        return reduced(road)

    def gone_back(self, road):
        """The road gone back."""
        check_road(self, road)
        return opposite(road)

    def __eq__(self, other):
        """Whether the value is a web with the same ties."""
        return isinstance(other, Web) and self._ties == other._ties

    def __len__(self):
        """The number of the ties."""
        return len(self._ties)

    def __iter__(self):
        """Iterate over the pairs (begin, end)."""
        return iter(self._ties)

    def __str__(self):
        return f"web of {self.size} ties, {self.points} points, rank {self.rank}"


def check_web(web):
    """Raise the error of what is no web."""
    if not isinstance(web, Web):
        raise InvalidWeb("no web")


def is_directed(web, value):
    """Whether the value is a directed tie of a web."""
    return is_integer(value) and 1 <= abs(value) <= web.size


def check_directed(web, tie):
    """Raise the error of what is no directed tie of a web."""
    if not is_directed(web, tie):
        raise InvalidNumber(tie)


def check_tie(web, tie):
    """Raise the error of what is no tie of a web."""
    if not is_within(tie, 1, web.size):
        raise InvalidNumber(tie)


def check_point(web, point):
    """Raise the error of what is no point of a web."""
    if not is_within(point, 0, web.points - 1):
        raise InvalidNumber(point)


def check_road(web, road):
    """Raise the error of what is no road of a web."""
    if not is_road_in(web.ties, road):
        raise InvalidRoad("no road of the web")


def are_ties_of(web, value):
    """Whether the value is an ascending tuple of ties of a web."""
    if not isinstance(value, tuple) or not all([is_within(tie, 1, web.size) for tie in value]):
        return False
    return all([one < other for one, other in zip(value, value[1:])])


def check_ties(web, ties):
    """Raise the error of what is no ascending tuple of ties of a web."""
    if not are_ties_of(web, ties):
        raise InvalidOperation("no ascending tuple of ties of the web")


def least_tree(web):
    """The ascending tuple of the ties of the least tree."""
    check_web(web)
    return tuple(least_tree_of(web.ties))


def base_rounds(web):
    """The rounds at the point 0 that the ties outside the least tree close."""
    check_web(web)
    return base_rounds_of(web.ties)


def road_between(web, one, other):
    """The tight road in the least tree from one point to another one."""
    check_web(web)
    check_point(web, one)
    check_point(web, other)
    roads = roads_from(web.ties, least_tree_of(web.ties), 0)
    return times(opposite(roads[one]), roads[other])


def pieces(web, ties):
    """The tuple of the pieces in which some ties hang together."""
    check_web(web)
    check_ties(web, ties)
    return pieces_in(web.ties, ties)


def is_forest(web, ties):
    """Whether no tight round other than () is in some ties."""
    check_web(web)
    check_ties(web, ties)
    return is_forest_in(web.ties, ties)


def tight_round(web, road):
    """The ring of a round."""
    check_web(web)
    check_road(web, road)
    if not is_round_in(web.ties, road):
        raise InvalidOperation("a road that does not end where it begins")
    return ring_of(reduced(road))


def do_name(ties, words):
    """Whether words, one for each tie, are a naming of a web."""
    letters = rank_of_ties(ties)
    return has_all(letters, folded_web(letters, [reading_of(words, road) for road in base_rounds_of(ties)]))


def is_naming(web, value):
    """Whether the value is a naming of a web."""
    check_web(web)
    if not 1 <= web.rank <= MAX_RANK or not isinstance(value, tuple) or len(value) != web.size:
        return False
    return all([is_long_word(web.rank, word) for word in value]) and do_name(web.ties, value)


def base_naming(web):
    """The naming with letters for the ties outside the least tree, and () for its ties."""
    check_web(web)
    if not 1 <= web.rank <= MAX_RANK:
        raise InvalidOperation("no web of a rank from 1 to 5")
    return base_words(web.ties)


def base_words(ties):
    """The words of the base naming of a web of any rank."""
    tree = least_tree_of(ties)
    outside = [tie for tie in range(1, len(ties) + 1) if tie not in tree]
    letters = {tie: letter for letter, tie in enumerate(outside, start=1)}
    return tuple([(letters[tie],) if tie in letters else () for tie in range(1, len(ties) + 1)])


def reading(web, words, road):
    """The product of the words, of a naming, of the ties of a road."""
    if not is_naming(web, words):
        raise InvalidOperation("no naming of the web")
    check_road(web, road)
    return reading_of(words, road)
