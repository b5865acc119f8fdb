"""Changes of stands, each of which leads to a stand of the same turner, up to turning."""

from noroadback.base.integers import is_within
from noroadback.errors import InvalidNumber, InvalidOperation, Refused, TooMany
from noroadback.webs.drafts import (
    do_fold, draft_folded, draft_halved, draft_joined, draft_pulled, draft_shrunk, is_kept_set, is_passing,
)
from noroadback.webs.stands import check_stand, stand_made
from noroadback.webs.ties import begin_of, beginnings_at, end_of, is_forest_in
from noroadback.webs.webs import MAX_TIES, check_directed, check_point, check_tie, check_ties


def draft_of(stand):
    """The draft of a stand."""
    return stand.web.ties, stand.words, stand.images


def stand_without(stand, gone, draft):
    """The stand of a draft that has been made of a stand by leaving some ties out."""
    left = [tie for tie in range(1, stand.size + 1) if tie not in gone]
    ties, words, images = draft
    for tie, image in zip(left, images):
        if image == ():
            raise Refused(("empty", tie))
    return stand_made(ties, words, images)


def halved(stand, tie, place):
    """The stand with a tie that is cut in two."""
    check_stand(stand)
    check_tie(stand.web, tie)
    if not is_within(place, 1, len(stand.images[tie - 1]) - 1):
        raise InvalidNumber(place)
    if stand.size == MAX_TIES:
        raise TooMany(MAX_TIES)
    return stand_without(stand, (), draft_halved(draft_of(stand), tie, place))


def folded(stand, one, other):
    """The stand in which two directed ties become one."""
    check_stand(stand)
    check_directed(stand.web, one)
    check_directed(stand.web, other)
    draft = draft_of(stand)
    if not do_fold(draft, one, other):
        raise InvalidOperation("no two ties with one begin and with equal images")
    return stand_without(stand, (max(abs(one), abs(other)),), draft_folded(draft, one, other))


def shrunk(stand, ties):
    """The stand in which the pieces of a forest that is led into itself become points."""
    check_stand(stand)
    check_ties(stand.web, ties)
    draft = draft_of(stand)
    if not is_forest_in(stand.web.ties, ties) or not is_kept_set(draft, ties):
        raise InvalidOperation("no forest that is led into itself")
    return stand_without(stand, ties, draft_shrunk(draft, ties))


def pulled(stand, point):
    """The stand without an end and its tie."""
    check_stand(stand)
    check_point(stand.web, point)
    found = beginnings_at(stand.web.ties, point)
    if len(found) != 1:
        raise InvalidOperation("no end")
    return stand_without(stand, (abs(found[0]),), draft_pulled(draft_of(stand), point))


def joined(stand, point, tie):
    """The stand in which the other tie at a point with just two beginnings is lengthened by the named one."""
    check_stand(stand)
    check_point(stand.web, point)
    check_tie(stand.web, tie)
    ties = stand.web.ties
    if not is_passing(ties, point) or point not in (begin_of(ties, tie), end_of(ties, tie)):
        raise InvalidOperation("no tie at a point with just two beginnings, of unlike ties")
    return stand_without(stand, (tie,), draft_joined(draft_of(stand), point, tie))
