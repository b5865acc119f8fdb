"""Rows of ties that stand in far images of a tie, and the ties at their places."""

from noroadback.base.integers import is_passed, is_within
from noroadback.base.rows import opposite
from noroadback.base.sides import row_of, sides_of, text_of
from noroadback.errors import InvalidNumber, InvalidOperation, InvalidRoad, TooMany
from noroadback.rates.gates import check_never_back
from noroadback.rates.tables import counts_in, weights_behind
from noroadback.search.lost import is_tight_road
from noroadback.search.windows import rows_from
from noroadback.webs.stands import check_stand
from noroadback.webs.webs import check_directed

MAX_LENGTH = 6
MAX_ROWS = 2000
MAX_POWER = 200


def check_row_of(stand, tie, length):
    """Raise the errors of what is no stand, no directed tie of it, or no length of rows."""
    check_stand(stand)
    check_directed(stand.web, tie)
    if not is_within(length, 1, MAX_LENGTH):
        raise InvalidNumber(length)


def rows_to(stand, tie, length):
    """The list, from the length 0 on, of the dicts with the texts of all rows of a tie to a length."""
    check_never_back(stand)
    found = rows_from(sides_of(stand.images), tie, length, MAX_ROWS)
    if found is None:
        raise TooMany(MAX_ROWS)
    return found


def rows_in(stand, tie, length):
    """The ascending tuple of the rows of a tie with so many ties."""
    check_row_of(stand, tie, length)
    return tuple(sorted([row_of(text) for text in rows_to(stand, tie, length)[length]]))


def row_numbers(stand, tie, most):
    """The numbers of the rows of a tie with 1, 2 and so on to so many ties."""
    check_row_of(stand, tie, most)
    return tuple([len(texts) for texts in rows_to(stand, tie, most)[1:]])


def next_ties(stand, tie, road):
    """The ascending tuple of the directed ties that continue a road to a row of a tie."""
    check_stand(stand)
    check_directed(stand.web, tie)
    if not is_tight_road(stand, road, MAX_LENGTH - 1):
        raise InvalidRoad("no tight road of the web, with one to five ties")
    length = len(road) + 1
    begun = text_of(road)
    found = [row_of(text)[-1] for text in rows_to(stand, tie, length)[length] if text[:-1] == begun]
    return tuple(sorted(found))


def tie_at(stand, tie, power, place):
    """The directed tie at a place of the image of a tie with a number."""
    check_stand(stand)
    check_directed(stand.web, tie)
    if not is_within(power, 0, MAX_POWER):
        raise InvalidNumber(power)
    if not is_passed(place) or place < 0:
        raise InvalidNumber(place)
    check_never_back(stand)
    sizes = sizes_to(stand.images, power)
    if place >= sizes[power][abs(tie) - 1]:
        raise InvalidOperation("the image has no such place")
    return tie_in(stand.images, sizes, tie, place)


def sizes_to(images, power):
    """The list of the tuples of the lengths of all images with the numbers from 0 to the power."""
    table = counts_in(images)
    sizes = [(1,) * len(images)]
    for _ in range(power):
        sizes.append(weights_behind(table, sizes[-1]))
    return sizes


def tie_in(images, sizes, tie, place):
    """The directed tie at a place of the image of a tie with the last number that sizes are told for."""
    for known in sizes[-2::-1]:
        image = images[tie - 1] if tie > 0 else opposite(images[-tie - 1])
        tie, place = part_at(known, image, place)
    return tie


def part_at(sizes, image, place):
    """The tie of an image in whose own image a place of all these images stands, and the place in it."""
    passed = 0
    while place >= sizes[abs(image[passed]) - 1]:
        place = place - sizes[abs(image[passed]) - 1]
        passed += 1
    return image[passed], place
