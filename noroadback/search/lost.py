"""What is lost where images of roads meet: how many first ties the images of two roads have in common."""

from noroadback.base.integers import is_integer
from noroadback.base.rows import common_end, is_reduced
from noroadback.base.sides import sides_of, told_sides
from noroadback.errors import InvalidOperation, InvalidRoad, TooMany
from noroadback.rates.firsts import far_firsts
from noroadback.rates.gates import check_never_back, is_open
from noroadback.search.meeting import longest_meeting
from noroadback.turns.images import length_of
from noroadback.webs.stands import check_stand
from noroadback.webs.ties import begin_of, is_road_in

MOST_LOST = 400
MOST_ROAD = 400


def bound_of(images):
    """The sum of the lengths of images, less the number of the ties that stand in some image."""
    return length_of(images) - len({abs(entry) for image in images for entry in image})


def lost_bound(stand):
    """A number of ties that is not less than what two tight roads lose."""
    check_stand(stand)
    return bound_of(stand.images)


def is_tight_road(stand, value, most):
    """Whether the value is a tight road of the web with at least one tie and at most so many."""
    return is_road_in(stand.web.ties, value) and 1 <= len(value) <= most and is_reduced(value)


def common_in(images, one, other):
    """How many first ties the images of two roads, each tightened, have in common."""
    sides = sides_of(images)
    # Roads begin alike as far as their contraries end alike.
    return common_end(told_sides(sides, one, None)[1], told_sides(sides, other, None)[1])


def do_begin_at_one_point(stand, one, other):
    """Whether two roads other than () begin at one point."""
    return begin_of(stand.web.ties, one[0]) == begin_of(stand.web.ties, other[0])


def common_of(stand, one, other):
    """How many first ties the images of two tight roads from one point, each tightened, have in common."""
    check_stand(stand)
    for road in (one, other):
        if not is_tight_road(stand, road, MOST_ROAD):
            raise InvalidRoad("no tight road of the web, with 1 to 400 ties")
    if not do_begin_at_one_point(stand, one, other):
        raise InvalidOperation("roads that begin at unlike points")
    return common_in(stand.images, one, other)


def check_lost(stand):
    """Raise the errors of what cannot be asked for the most that is lost."""
    check_stand(stand)
    check_never_back(stand)
    if bound_of(stand.images) > MOST_LOST:
        raise TooMany(MOST_LOST)


def most_lost(stand):
    """The most that two open roads lose, and two such roads."""
    check_lost(stand)
    return longest_meeting(stand.web.ties, sides_of(stand.images), far_firsts(stand.images))


def is_most_lost(stand, value):
    """Whether the value is a triple as of most_lost."""
    check_lost(stand)
    if not isinstance(value, tuple) or len(value) != 3 or not is_integer(value[0]):
        return False
    number, one, other = value
    for road in (one, other):
        if not is_road_in(stand.web.ties, road) or road == () or not is_open(stand, road):
            return False
    if one[0] == other[0] or not do_begin_at_one_point(stand, one, other):
        return False
    return number == common_in(stand.images, one, other) and number == most_lost(stand)[0]
