"""Rings led on, weightings that grow, and stretches. Nothing is checked here; no image turns back.

A growth is a triple (weights, fraction, need): a weighting, a fraction by which it grows, and a number. A stretch is
long if its weight, so many times as the top of the fraction is above its bottom, is above this number.
"""

from noroadback.base.integers import is_integer
from noroadback.base.rows import common_end, ring_of
from noroadback.base.sides import row_of, told_sides
from noroadback.rates.roots import root_above
from noroadback.rates.tables import does_show, most_of, poly_of, rate_paper, told_fraction, weights_behind

# A rate above 1 of at most eight ties is above 1 by more than 90 of 1,000 parts.
RATE_BITS = 10


def ring_behind(sides, ring, most):
    """The ring of what a ring is led to, None if it has more ties than the most."""
    length = sum([len(side) for side in sides.values()]) // 2
    # Images of two parts of a ring lose at most so many ties where they meet. So a part that is longer by four
    # times this than the most, which loses some at both of its ends, twice, tells that the ring is too long.
    enough = most + 4 * length
    told, back = told_sides(sides, ring, enough)
    if len(told) > enough:
        return None
    struck = common_end(told, back)
    if len(told) - 2 * struck > most:
        return None
    return ring_of(row_of(told[struck:len(told) - struck]))


def growth_of(table, weights, fraction):
    """The growth of a weighting and a fraction."""
    used = [weight for place, weight in enumerate(weights) if any([row[place] > 0 for row in table])]
    lost = sum(weights_behind(table, weights)) - sum(used)
    return weights, fraction, 2 * lost * fraction[1]


def growing(table):
    """A growth for a table that hangs together, None for the rate 1."""
    if most_of(table) == 1:
        return None
    above = root_above(poly_of(table), most_of(table), RATE_BITS)
    # Near to the rate, stretches are long soon.
    fraction = told_fraction(above - 2, 1 << RATE_BITS)
    return growth_of(table, rate_paper(table, fraction)[1], fraction)


def does_grow(table, weights, fraction):
    """Whether a value is a weighting that grows by a fraction, and this is above 1."""
    if fraction[0] <= fraction[1] or not isinstance(weights, tuple) or len(weights) != len(table):
        return False
    if not all([is_integer(weight) and weight > 0 for weight in weights]):
        return False
    return does_show(table, fraction, "above", weights)


def closed_places(far, ring):
    """The ascending list of the places of a ring ahead of which the road along it turns through a gate."""
    return [place for place, entry in enumerate(ring) if far[-ring[place - 1]] == far[entry]]


def is_enough(growth, weight):
    """Whether a stretch with a weight is long."""
    _, (top, bottom), need = growth
    return (top - bottom) * weight > need


def long_place(far, ring, growth):
    """A place of a ring from which the stretch is long, None if there is none."""
    places = closed_places(far, ring)
    if places == []:
        return 0
    weights = growth[0]
    sums = [0]
    for entry in ring + ring:
        sums.append(sums[-1] + weights[abs(entry) - 1])
    ends = places[1:] + [places[0] + len(ring)]
    for place, end in zip(places, ends):
        if is_enough(growth, sums[end] - sums[place]):
            return place
    return None


def is_long(far, ring, growth, place):
    """Whether the stretch from a place of a ring is long."""
    places = closed_places(far, ring)
    if places == []:
        return True
    end = min([closed + (0 if closed > place else len(ring)) for closed in places])
    stretch = (ring + ring)[place:end]
    return is_enough(growth, sum([growth[0][abs(entry) - 1] for entry in stretch]))
