"""Words, rings and roads that stay: they are led to themselves."""

from noroadback.base.folding import base_of, folded_web, led_point
from noroadback.base.integers import is_within
from noroadback.base.rings import rings_with
from noroadback.base.sides import sides_of
from noroadback.errors import InvalidNumber, TooMany
from noroadback.search.fixed import led_ring, staying_of, tight_road_number
from noroadback.turns.turners import check_turner
from noroadback.webs.stands import check_stand

MAX_WORD = 7
MAX_ROAD = 8
MAX_LISTED = 100000


def check_number(ties, length, most):
    """Raise the errors of a wrong length, or of too many tight roads of it."""
    if not is_within(length, 1, most):
        raise InvalidNumber(length)
    if tight_road_number(ties, length) > MAX_LISTED:
        raise TooMany(MAX_LISTED)


def loops_of(turner):
    """The ties of a web with one point and a tie for each letter: its roads are words."""
    return ((0, 0),) * turner.letters


def check_staying(turner, length):
    """Raise the errors of what cannot be asked for what stays under it."""
    check_turner(turner)
    check_number(loops_of(turner), length, MAX_WORD)


def staying_words(turner, length):
    """The tuple of all words with 1 to so many entries that a turner leads to themselves."""
    check_staying(turner, length)
    ties, sides = loops_of(turner), sides_of(turner.images)
    return tuple([word for size in range(1, length + 1) for word in staying_of(ties, sides, size)])


def staying_base(turner, length):
    """A base of the lot of the words that stay, with at most so many entries."""
    words = staying_words(turner, length)
    letters = turner.letters
    kept = []
    goals = folded_web(letters, kept)
    for word in words:
        # Few words are in no lot of those ahead, so that few are folded.
        if led_point(goals, word) != 0:
            kept.append(word)
            goals = folded_web(letters, kept)
    return base_of(letters, goals)


def staying_rings(turner, length):
    """The tuple of all rings with 1 to so many entries that a turner leads to themselves."""
    check_staying(turner, length)
    sides = sides_of(turner.images)
    rings = [ring for size in range(1, length + 1) for ring in rings_with(turner.letters, size)]
    return tuple([ring for ring in rings if led_ring(sides, ring, len(ring)) == ring])


def staying_roads(stand, length):
    """The tuple of all whole roads with 1 to so many ties that a stand leads to themselves."""
    check_stand(stand)
    check_number(stand.web.ties, length, MAX_ROAD)
    sides = sides_of(stand.images)
    whole = {}
    for size in range(1, length + 1):
        for road in staying_of(stand.web.ties, sides, size):
            # A road that stays is whole unless it begins with a whole one.
            if not any([road[:place] in whole for place in range(1, size)]):
                whole[road] = True
    return tuple(list(whole))
