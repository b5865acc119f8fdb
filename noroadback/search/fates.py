"""Fates of tight rounds: whether they are led to themselves again, or grow beyond every length."""

from noroadback.base.fractions import is_fraction
from noroadback.base.integers import is_integer, is_within
from noroadback.base.rows import ring_of
from noroadback.base.sides import sides_of
from noroadback.base.squares import row_behind
from noroadback.errors import InvalidNumber, InvalidOperation, InvalidRoad, TooMany
from noroadback.rates.firsts import far_firsts
from noroadback.rates.gates import check_never_back, is_open
from noroadback.rates.tables import check_together, counted, counts_in
from noroadback.search.lost import bound_of, is_tight_road
from noroadback.search.stretches import does_grow, growing, growth_of, is_long, long_place, ring_behind
from noroadback.webs.stands import check_stand
from noroadback.webs.ties import is_round_in

MOST_ROUND = 24
MOST_TIES = 8
MOST_LED = 40000
MOST_LOST = 24
MOST_POWER = 12
MOST_STEPS = 200


def check_tight_round(stand, road):
    """Raise the error of what is no tight round with 1 to 24 ties."""
    is_tight = is_tight_road(stand, road, MOST_ROUND)
    if not is_tight or not is_round_in(stand.web.ties, road) or road[0] == -road[-1]:
        raise InvalidRoad("no tight round of the web, with 1 to 24 ties")


def ring_led(stand, road, many):
    """The ring that the ring of a tight round is led to by a power."""
    check_stand(stand)
    check_tight_round(stand, road)
    if not is_within(many, 0, MOST_POWER):
        raise InvalidNumber(many)
    sides = sides_of(stand.images)
    ring = ring_of(road)
    for _ in range(many):
        ring = ring_behind(sides, ring, MOST_LED)
        if ring is None:
            raise TooMany(MOST_LED)
    return ring


def check_fate(stand, road):
    """Raise the errors of what cannot be asked for its fate."""
    check_stand(stand)
    check_tight_round(stand, road)
    check_never_back(stand)
    check_together(counts_in(stand.images))
    if stand.size > MOST_TIES:
        raise TooMany(MOST_TIES)
    if bound_of(stand.images) > MOST_LOST:
        raise TooMany(MOST_LOST)


def fate_of(stand, first):
    """A paper about the fate of a ring."""
    sides, far = sides_of(stand.images), far_firsts(stand.images)
    growth = growing(counts_in(stand.images))
    ring, many = first, 0
    while many == 0 or ring != first:
        place = None if growth is None else long_place(far, ring, growth)
        if place is not None:
            return ("grows", many, place, growth[0], growth[1])
        ring = ring_behind(sides, ring, MOST_LED)
        many += 1
    return ("round", many)


def fate(stand, road):
    """A paper about the fate of a tight round: it comes round, or it grows."""
    check_fate(stand, road)
    return fate_of(stand, ring_of(road))


def ring_at(stand, first, power):
    """The ring that a ring is led to by a power, None if one up to it is too long, or is the first one again."""
    sides = sides_of(stand.images)
    ring, many = first, 0
    while many < power:
        ring = ring_behind(sides, ring, MOST_LED)
        many += 1
        # The ring of a round that comes round has no long stretch, whatever the power is.
        if ring is None or ring == first:
            return None
    return ring


def does_tell_growth(stand, first, told):
    """Whether a tuple (power, place, weights, fraction) shows that a ring grows."""
    power, place, weights, fraction = told
    if not is_integer(power) or not is_integer(place) or power < 0 or not is_fraction(fraction):
        return False
    table = counts_in(stand.images)
    if not does_grow(table, weights, fraction):
        return False
    ring = ring_at(stand, first, power)
    if ring is None or not 0 <= place < len(ring):
        return False
    return is_long(far_firsts(stand.images), ring, growth_of(table, weights, fraction), place)


def is_fate(stand, road, value):
    """Whether the value is a paper as of fate."""
    check_fate(stand, road)
    if not isinstance(value, tuple) or len(value) not in (2, 5):
        return False
    first = ring_of(road)
    if len(value) == 5:
        return value[0] == "grows" and does_tell_growth(stand, first, value[1:])
    return value[0] == "round" and is_integer(value[1]) and fate_of(stand, first) == ("round", value[1])


def lengths(stand, road, many):
    """The numbers of ties of the images of an open road by the powers from 0 on."""
    check_stand(stand)
    if not is_tight_road(stand, road, MOST_ROUND):
        raise InvalidRoad("no tight road of the web, with 1 to 24 ties")
    if not is_within(many, 0, MOST_STEPS):
        raise InvalidNumber(many)
    check_never_back(stand)
    if not is_open(stand, road):
        raise InvalidOperation("a road with a turn through a gate")
    table = counts_in(stand.images)
    row = counted(road, stand.size)
    found = [len(road)]
    for _ in range(many):
        row = row_behind(row, table)
        found.append(sum(row))
    return tuple(found)
