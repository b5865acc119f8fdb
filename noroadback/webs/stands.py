"""Stands: webs with a naming that are led into themselves, and the turners that they tell."""

from noroadback.base.folding import folded_web, has_all
from noroadback.base.integers import is_within
from noroadback.base.rows import is_reduced, ring_of
from noroadback.base.sides import sides_of, single_rows, told_row
from noroadback.base.words import MAX_WORD, check_word, is_bare_row
from noroadback.errors import InvalidNumber, InvalidOperation, InvalidStand, Refused, TooMany
from noroadback.turns.images import images_behind, images_leading, images_to_power, length_of
from noroadback.turns.turners import check_turner, turner_made
from noroadback.turns.turning import word_by
from noroadback.webs.ties import base_rounds_of, begin_of, beginnings_at, end_of, is_road_in, reading_of
from noroadback.webs.webs import MAX_RANK, Web, are_ties, base_words, check_point, check_road, do_name

MAX_IMAGE = 400
MOST_POWER = 12
MOST_LED = 40000


def are_stand_words(letters, size, value):
    """Whether the value is a tuple of so many words of the letters."""
    if not isinstance(value, tuple) or len(value) != size:
        return False
    return all([is_bare_row(letters, word, MAX_WORD) for word in value])


def are_stand_images(ties, value):
    """Whether the value is a tuple of a tight road other than (), of at most 400 entries, for each tie."""
    if not isinstance(value, tuple) or len(value) != len(ties):
        return False
    if not all([isinstance(image, tuple) and 1 <= len(image) <= MAX_IMAGE for image in value]):
        return False
    return all([is_road_in(ties, image) and is_reduced(image) for image in value])


def web_told(ties, words, images):
    """The web of what can be asked for its first fault, behind the error of what cannot."""
    if not are_ties(ties) or not 1 <= Web(ties).rank <= MAX_RANK:
        raise InvalidStand("no web of a rank from 1 to 5")
    web = Web(ties)
    if not are_stand_words(web.rank, web.size, words):
        raise InvalidStand("no tuple of a word for each tie")
    if not are_stand_images(ties, images):
        raise InvalidStand("no tuple of a tight road, with 1 to 400 entries, for each tie")
    return web


def point_fault(ties, images):
    """The least tie whose image does not go with those of lesser ties, or with itself, None if there is none."""
    goals = {}
    for tie, image in enumerate(images, start=1):
        begin, end = ties[tie - 1]
        first, last = begin_of(ties, image[0]), end_of(ties, image[-1])
        if goals.setdefault(begin, first) != first or goals.setdefault(end, last) != last:
            return tie
    return None


def do_lead_to_all(ties, images):
    """Whether what the base rounds are led to reads to words that make all, for each naming."""
    # What makes all with one naming does so with each one, and this one has the shortest words.
    words = base_words(ties)
    rounds = base_rounds_of(ties)
    sides = sides_of(images)
    return has_all(len(rounds), folded_web(len(rounds), [reading_of(words, told_row(sides, road)) for road in rounds]))


def fault_in(ties, words, images):
    """The first fault of a web with words and images for its ties, None if there is none."""
    tie = point_fault(ties, images)
    if tie is not None:
        return ("point", tie)
    if not do_name(ties, words):
        return ("naming",)
    return None if do_lead_to_all(ties, images) else ("short",)


class Stand:
    """A stand. It never changes."""

    def __init__(self, ties, words, images):
        web = web_told(ties, words, images)
        fault = fault_in(ties, words, images)
        if fault is not None:
            raise Refused(fault)
        self._web = web
        self._words = words
        self._images = images

    @property
    def web(self):
        """The web."""
        return self._web

    @property
    def letters(self):
        """The rank of the web."""
        return self._web.rank

    @property
    def words(self):
        """The naming."""
        return self._words

    @property
    def images(self):
        """What the ties are led to."""
        return self._images

    @property
    def size(self):
        """The number of the ties."""
        return len(self._images)

    @property
    def length(self):
        """The sum of the lengths of the images."""
        return length_of(self._images)

    def __eq__(self, other):
        """Whether the value is a stand with the same web, words and images."""
        if not isinstance(other, Stand) or self._web != other._web:
            return False
        return self._words == other._words and self._images == other._images

    def __str__(self):
        return f"stand of {self.letters} letters, {self.size} ties, {self._web.points} points"


def stand_made(ties, words, images):
    """The stand with parts that were made, words and images of any lengths, and so are right."""
    # The class takes short words and images alone, so that it begins with the smallest stand here.
    made = Stand(((0, 0),), ((1,),), ((1,),))
    made._web = Web(ties)
    made._words = words
    made._images = images
    return made


def check_stand(stand):
    """Raise the error of what is no stand."""
    if not isinstance(stand, Stand):
        raise InvalidStand("no stand")


def stand_fault(ties, words, images):
    """The first fault of a web with words and images for its ties, None if there is none."""
    web_told(ties, words, images)
    return fault_in(ties, words, images)


def readings_of(stand):
    """The pair of the readings of the base rounds and of those of what they are led to."""
    rounds = base_rounds_of(stand.web.ties)
    sides = sides_of(stand.images)
    words = stand.words
    return (
        tuple([reading_of(words, road) for road in rounds]),
        tuple([reading_of(words, told_row(sides, road)) for road in rounds]),
    )


def turner_of(stand):
    """The turner of a stand."""
    check_stand(stand)
    read, goals = readings_of(stand)
    return turner_made(images_leading(read, goals))


def is_stand_of(turner, value):
    """Whether the value is a stand whose turner is alike to a turner."""
    check_turner(turner)
    if not isinstance(value, Stand) or value.letters != turner.letters:
        return False
    read, goals = readings_of(value)
    sides = sides_of(turner.images)
    # Turners are alike if they are so for words that make all. The turner of the stand can be very long.
    return word_by(goals, tuple([told_row(sides, word) for word in read])) is not None


def rose_stand(turner):
    """The rose of a turner: one point, a tie for each letter, and the images of the turner."""
    check_turner(turner)
    return stand_made(((0, 0),) * turner.letters, single_rows(turner.letters), turner.images)


def led(stand, road):
    """What a road is led to, tight."""
    check_stand(stand)
    check_road(stand.web, road)
    return told_row(sides_of(stand.images), road)


def led_point(stand, point):
    """The point to which a point is led."""
    check_stand(stand)
    check_point(stand.web, point)
    ties = stand.web.ties
    tie = beginnings_at(ties, point)[-1]
    if tie > 0:
        return begin_of(ties, stand.images[tie - 1][0])
    return end_of(ties, stand.images[-tie - 1][-1])


def stand_behind(stand, images):
    """The stand with the web and the naming of another one, and with images, None telling that they are too long."""
    if images is None:
        raise TooMany(MOST_LED)
    for tie, image in enumerate(images, start=1):
        if image == ():
            raise Refused(("empty", tie))
    return stand_made(stand.web.ties, stand.words, images)


def behind(one, other):
    """The stand that leads each tie by the other one first, then by the one."""
    check_stand(one)
    check_stand(other)
    if one.web != other.web or one.words != other.words:
        raise InvalidOperation("stands of unlike webs or namings")
    return stand_behind(one, images_behind(one.images, other.images, MOST_LED))


def stand_power(stand, many):
    """So many of a stand behind one another."""
    check_stand(stand)
    if not is_within(many, 1, MOST_POWER):
        raise InvalidNumber(many)
    return stand_behind(stand, images_to_power(stand.images, many, MOST_LED))


def road_of(stand, word):
    """The ring of the tight round whose reading is alike to a word."""
    check_stand(stand)
    check_word(stand.letters, word)
    read = readings_of(stand)[0]
    rounds = images_leading(read, base_rounds_of(stand.web.ties))
    return ring_of(told_row(sides_of(rounds), word))


def word_of(stand, road):
    """The reading of a road."""
    check_stand(stand)
    check_road(stand.web, road)
    return reading_of(stand.words, road)
