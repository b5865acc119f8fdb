"""Promises [0.15] and [9.1] to [9.6]: stands, their faults, their turners, and what they lead to."""

import unittest

import brute
import drawn
from noroadback.errors import InvalidNumber, InvalidOperation, InvalidRoad, InvalidStand, InvalidWord, Refused, TooMany
from noroadback.turns.alike import alike_word, turned_by
from noroadback.turns.turners import Turner
from noroadback.webs import stands as module
from noroadback.webs.stands import (
    Stand, behind, is_stand_of, led, led_point, road_of, rose_stand, stand_fault, stand_power, turner_of, word_of,
)
from noroadback.webs.webs import Web, tight_round
from test_webs import WRONG_PAIRS
from wrong import HUGE, ROAD, STAND, STRANGE, TURNER, WORD, WRONG_ROADS, WRONG_WORDS, WrongInputs, integers_but

GROW, THREE, PLAIN = Turner(((1, 2), (1,))), Turner(((2,), (3,), (1, 2))), Turner(((1,), (2, 1)))
TIES = ((0, 1), (0, 0), (1, 0))
ROSE = rose_stand(GROW)
HALF = Stand(TIES, ((1,), (2,), ()), ((1, 3), (1, 3), (2,)))
WORDS, IMAGES = HALF.words, HALF.images
# Images of a rose of two letters: 2 is led along the tie 1 so many times.
TALL = Turner(((1,), (2,) + (1,) * 199))


def drawn_stands(seed, many, most=4, letters=None):
    """Stands made from drawn moves and roads, with their parts and the images of their turners."""
    rng = drawn.dice(seed)
    for number in range(many):
        pairs, words, images, goals = drawn.parts(rng, letters or 1 + number % 5, most)
        yield rng, Stand(pairs, words, images), goals


def fault_by_steps(pairs, words, images):
    """The first fault, told by the test's own steps."""
    goals = {}
    for tie, image in enumerate(images, start=1):
        for point, goal in zip(pairs[tie - 1], (brute.begin(pairs, image[0]), brute.end(pairs, image[-1]))):
            if goals.setdefault(point, goal) != goal:
                return ("point", tie)
    letters = range(1, len(pairs) - len(brute.points(pairs)) + 2)
    rounds = brute.base_rounds(pairs)[0]
    for fault, rows in [("naming", rounds), ("short", [brute.led(images, road) for road in rounds])]:
        loops = brute.web([brute.reading(words, road) for road in rows])
        if not all(brute.is_in_lot(loops, (letter,)) for letter in letters):
            return (fault,)
    return None


class Constants(unittest.TestCase):
    def test_constants(self):
        self.assertEqual([module.MAX_IMAGE, module.MOST_POWER, module.MOST_LED], [400, 12, 40000])


class Making(WrongInputs):
    def test_drawn_stands(self):
        for rng, stand, goals in drawn_stands(1, 100):
            self.assertEqual(stand.web, Web(stand.web.ties))
            self.assertEqual((stand.letters, stand.size), (stand.web.rank, stand.web.size))
            self.assertEqual(stand.length, sum(map(len, stand.images)))
            self.assertIsNone(stand_fault(stand.web.ties, stand.words, stand.images))
            self.assertEqual(str(stand), f"stand of {stand.letters} letters, {stand.size} ties, {stand.web.points} points")

    def test_drawn_faults(self):
        found = {}
        for rng, stand, _ in drawn_stands(2, 250):
            pairs, words, images = stand.web.ties, list(stand.words), list(stand.images)
            for _ in range(rng.randint(1, 2)):
                place = rng.randrange(len(pairs))
                if rng.random() < 0.4:
                    words[place] = drawn.word(rng, stand.letters, 3)
                else:
                    images[place] = brute.shrunk(drawn.road(rng, pairs, rng.choice(brute.points(pairs)), rng.randint(1, 4)))
            if all(images):
                told = fault_by_steps(pairs, tuple(words), tuple(images))
                self.assertEqual(stand_fault(pairs, tuple(words), tuple(images)), told)
                found[told and told[0]] = found.get(told and told[0], 0) + 1
                if told is None:
                    self.assertEqual(Stand(pairs, tuple(words), tuple(images)).images, tuple(images))
                else:
                    self.assert_raises_with(Refused, "reason", told, Stand, pairs, tuple(words), tuple(images))
        self.assertTrue(all(found[name] > 5 for name in ("point", "naming", "short", None)))

    def test_the_first_of_several_faults(self):
        bad_words, bad_images = ((1,), (1,), ()), ((1,), (1, 3), (2,))
        self.assertEqual(stand_fault(TIES, bad_words, bad_images), ("point", 3))
        self.assertEqual(stand_fault(TIES, bad_words, ((1, 3),) * 3), ("naming",))
        self.assertEqual(stand_fault(TIES, WORDS, ((1, 3),) * 3), ("short",))
        # A tie from a point to itself, with an image between unlike points.
        self.assertEqual(stand_fault(((0, 0), (0, 1)), ((1,), ()), ((2,), (2,))), ("point", 1))
        self.assertEqual(stand_fault(((0, 1), (1, 1)), ((), (1,)), ((1,), (-1,))), ("point", 2))
        self.assertEqual(stand_fault(((0, 0), (0, 1)), ((1,), ()), ((1,), (-2,))), ("point", 2))

    def test_words_and_images_of_most_entries(self):
        pairs, words = ((0, 0), (0, 0)), ((1,), (2,) + (1,) * 199)
        self.assertEqual(Stand(pairs, words, ((1,), (2,) + (1,) * 399)).length, 401)
        self.assert_raises_with(InvalidStand, None, None, Stand, pairs, words, ((1,), (2,) + (1,) * 400))
        self.assert_raises_with(InvalidStand, None, None, Stand, pairs, ((1,), (2,) + (1,) * 200), ((1,), (2,)))

    def test_ranks(self):
        for letters in range(1, 6):
            loops = ((0, 0),) * letters
            self.assertEqual(Stand(loops, brute.idle(letters), brute.idle(letters)).letters, letters)
        for pairs, words, images in [(((0, 1),), ((),), ((1,),)), (((0, 0),) * 6, brute.idle(5) + ((1,),), brute.idle(6))]:
            self.assert_raises_with(InvalidStand, None, None, Stand, pairs, words, images)
        line = tuple((place, place + 1) for place in range(23)) + ((23, 0),)
        around = Stand(line, ((),) * 23 + ((1,),), brute.idle(24))
        self.assertEqual([around.size, around.letters, turner_of(around).images], [24, 1, ((1,),)])
        self.assert_raises_with(InvalidStand, None, None, Stand, line[:-1] + ((23, 24), (24, 0)), ((),) * 24 + ((1,),), brute.idle(25))

    def test_wrong_inputs(self):
        words = STRANGE + [(), WORDS[:2], WORDS + ((),), [*WORDS], ((1,), (2,), None), ((1,), (2,), [1]), ((1,), (2,), (True,)), 1,
                           ((1,), (2,), (1, -1)), ((1,), (2,), (3,)), ((1,), (2,), (HUGE,)), ((1,), (2,), (1,) * 201), ((1,), (2,), 1)]
        images = STRANGE + [(), IMAGES[:2], IMAGES + ((1,),), [*IMAGES], ((1, 3), (1, 3), ()), ((1, 3), (1, 3), None), 1,
                            ((1, 3), (1, 3), (2, -2)), ((1, 3), (1, 3), (4,)), ((1, 3), (1, 3), (1, 2)), ((1, 3), (1, 3), [2]),
                            ((1, 3), (True, 3), (2,)), ((1, 3), (1, 3), (HUGE,)), ((1, 3), (1, 3), (2,) * 401), ((1, 3), (1, 3), (0,))]
        wrongs = [(InvalidStand, None, WRONG_PAIRS), (InvalidStand, None, words), (InvalidStand, None, images)]
        for call in (Stand, stand_fault):
            self.assert_refuses(call, (TIES, WORDS, IMAGES), wrongs)
        # What is no stand at all comes ahead of faults.
        self.assert_raises_with(InvalidStand, None, None, Stand, TIES, ((1,), (1,), ()), ((1,), (1, 3), ()))

    def test_comparing(self):
        self.assertTrue(HALF == Stand(TIES, WORDS, IMAGES) and not HALF != Stand(TIES, WORDS, IMAGES))
        others = [Stand(TIES, ((-1,), (2,), ()), IMAGES), Stand(TIES, WORDS, ((1, 3), (1, 3), (-2,))), ROSE]
        for value in STRANGE + others + [0, HALF.web, (TIES, WORDS, IMAGES)]:
            self.assertIs(HALF == value, False)
            self.assertIs(HALF != value, True)

    def test_stands_never_change_and_are_not_iterated(self):
        for name in ("web", "letters", "words", "images", "size", "length"):
            with self.assertRaises(AttributeError):
                setattr(HALF, name, 1)
        with self.assertRaises(TypeError):
            iter(HALF)


class Turners(WrongInputs):
    def test_the_very_turner(self):
        for rng, stand, goals in drawn_stands(3, 120):
            turner = turner_of(stand)
            self.assertIs(type(turner), Turner)
            self.assertEqual(turner.images, goals)
            for road in brute.base_rounds(stand.web.ties)[0]:
                word = brute.reading(stand.words, road)
                self.assertEqual(brute.told(goals, word), brute.reading(stand.words, brute.led(stand.images, road)))

    def test_stands_of_turners(self):
        for rng, stand, goals in drawn_stands(4, 60):
            turner = turned_by(stand.letters, drawn.word(rng, stand.letters, 5)) * Turner(goals)
            self.assertIs(is_stand_of(turner, stand), True)
            move = Turner.of_move(stand.letters, rng.choice(brute.all_moves(stand.letters)))
            self.assertIs(is_stand_of(turner * move, stand), alike_word(turner * move, Turner(goals)) is not None)
            other = Turner.idle(1 + stand.letters % 5)
            self.assertIs(is_stand_of(other, stand), False)

    def test_turners_with_long_ways_between_the_words(self):
        # What leads the words of this rose to letters has a very long image, but the stand is idle.
        words = ((1,), (2,) + (1,) * 199, (3,) + (2,) * 199, (4,) + (3,) * 199, (5,) + (4,) * 199)
        stand = Stand(((0, 0),) * 5, words, brute.idle(5))
        self.assertEqual(turner_of(stand), Turner.idle(5))
        self.assertIs(is_stand_of(Turner.idle(5), stand), True)
        self.assertIs(is_stand_of(Turner(((2,), (1,), (3,), (4,), (5,))), stand), False)

    def test_roses(self):
        for turner in drawn.turners(5, 30):
            rose = rose_stand(turner)
            self.assertEqual((rose.web.ties, rose.words, rose.images), (((0, 0),) * turner.letters, brute.idle(turner.letters), turner.images))
            self.assertEqual(turner_of(rose), turner)
            self.assertIs(is_stand_of(turner, rose), True)

    def test_long_returned_turners(self):
        long = GROW.power(20)
        rose = rose_stand(long)
        self.assertEqual((turner_of(rose), rose.length, rose.images), (long, 28657, long.images))
        self.assertIs(is_stand_of(long, rose), True)
        self.assertIs(is_stand_of(GROW.power(19), rose), False)
        self.assertEqual(led(rose, (1, -2)), brute.told(long.images, (1, -2)))
        self.assertEqual(stand_power(rose, 1), rose)
        self.assert_raises_with(TooMany, "most", 40000, stand_power, rose, 2)

    def test_values_that_are_no_stands(self):
        for value in STRANGE + [None, 1, HALF.web, (TIES, WORDS, IMAGES)]:
            self.assertIs(is_stand_of(GROW, value), False)

    def test_wrong_inputs(self):
        self.assert_refuses(turner_of, (HALF,), [STAND])
        self.assert_refuses(is_stand_of, (GROW, None), [TURNER, None])
        self.assert_refuses(rose_stand, (GROW,), [TURNER])


class Leading(WrongInputs):
    def test_roads_and_points(self):
        for rng, stand, _ in drawn_stands(6, 80):
            pairs = stand.web.ties
            road = drawn.road(rng, pairs, rng.choice(brute.points(pairs)), rng.randint(0, 10))
            self.assertEqual(led(stand, road), brute.shrunk(brute.put_together(stand.images, road)))
            for point in brute.points(pairs):
                for tie in brute.beginnings(pairs, point):
                    self.assertEqual(led_point(stand, point), brute.begin(pairs, brute.led(stand.images, (tie,))[0]))

    def test_edges(self):
        self.assertEqual([led(HALF, ()), led(HALF, (-1, 2)), led(HALF, (3, 2, -2, 1)), led_point(HALF, 0)], [(), (), (2, 1, 3), 0])
        self.assertEqual(led(ROSE, (1, 2) * 10000), (1, 2, 1) * 10000)

    def test_wrong_inputs(self):
        self.assert_refuses(led, (HALF, (1,)), [STAND, ROAD])
        self.assert_refuses(led_point, (HALF, 1), [STAND, (InvalidNumber, "given", integers_but(0, 1))])
        self.assert_refuses(word_of, (HALF, (1,)), [STAND, ROAD])
        self.assert_raises_with(InvalidRoad, None, None, led, HALF, (1, 1))


class Behind(WrongInputs):
    def test_drawn_stands_of_one_web_and_naming(self):
        rng = drawn.dice(7)
        done = 0
        for number in range(150):
            letters = 1 + number % 5
            pairs, words, images, goals = drawn.parts(rng, letters)
            other = Stand(pairs, words, images)
            one = self.other_images(rng, other)
            told = tuple(brute.led(one.images, image) for image in other.images)
            if all(told):
                found = behind(one, other)
                self.assertEqual((found.web, found.words, found.images), (other.web, words, told))
                product = turner_of(one) * turner_of(other)
                self.assertIsNotNone(alike_word(product, turner_of(found)))
                self.assertEqual(Stand(pairs, words, told) == found, True)
                done += 1
            else:
                self.assert_raises_with(Refused, "reason", ("empty", told.index(()) + 1), behind, one, other)
        self.assertGreater(done, 60)

    def other_images(self, rng, stand):
        """A stand with the same web and naming: the images are led by a power, or each point is moved along a road."""
        pairs, images = stand.web.ties, stand.images
        while True:
            goals = sorted({brute.begin(pairs, image[0]) for image in images} | {brute.end(pairs, image[-1]) for image in images})
            point = rng.choice(goals)
            road = brute.shrunk(drawn.road(rng, pairs, point, rng.randint(0, 3)))
            moved = {goal: road if goal == point else () for goal in goals}
            found = tuple(brute.shrunk(brute.back(moved[brute.begin(pairs, image[0])]) + image + moved[brute.end(pairs, image[-1])])
                          for image in images)
            if all(found) and max(map(len, found)) <= 30:
                return Stand(pairs, stand.words, found)

    def test_powers(self):
        for rng, stand, _ in drawn_stands(8, 80):
            power, many = stand.images, 1
            while many < 5 and brute.length(power) < 3000:
                if all(power):
                    self.assertEqual(stand_power(stand, many).images, power)
                else:
                    self.assert_raises_with(Refused, "reason", ("empty", power.index(()) + 1), stand_power, stand, many)
                power = tuple(brute.led(stand.images, image) for image in power)
                many += 1

    def test_power_1_and_12(self):
        self.assertEqual(stand_power(ROSE, 1), ROSE)
        self.assertEqual(stand_power(ROSE, 12).images, GROW.power(12).images)
        again = HALF
        for _ in range(11):
            again = behind(HALF, again)
        self.assertEqual(stand_power(HALF, 12), again)

    def test_40000_entries_together_and_more(self):
        tall = rose_stand(TALL)
        def times(many):
            """The rose of so many entries and the tie 2 once and the tie 1 once."""
            return rose_stand(Turner(((1,), (2,) + (1,) * many)))
        rows = [tall]
        for _ in range(7):
            rows.append(behind(rows[-1], rows[-1]))
        self.assertEqual(rows[7].length, 2 + 199 * 128)
        self.assertEqual(behind(rows[7], rows[6]).length, 2 + 199 * 192)
        left = 39998 - 199 * 192
        self.assertEqual(left, 1790)
        exact = behind(rows[7], rows[6])
        while left > 199:
            exact = behind(exact, times(199))
            left -= 199
        exact = behind(exact, times(left))
        self.assertEqual(exact.length, 40000)
        for pair in [(exact, times(1)), (times(1), exact)]:
            self.assert_raises_with(TooMany, "most", 40000, behind, *pair)
        self.assertEqual(stand_power(exact, 1), exact)
        self.assertEqual(behind(exact, rose_stand(Turner(((1,), (2, -1))))).length, 39999)

    def test_lengths_of_all_powers_are_asked_for(self):
        # The power 3 is idle; the first one is short enough, and the second one is not.
        third, by, back = Turner(((2,), (-2, -1))), Turner.idle(2), Turner.idle(2)
        for _ in range(28):
            by, back = by * turned_by(2, (1,) * 200), back * turned_by(2, (-1,) * 200)
        stand = rose_stand(by * third * back)
        # With 1 for 5600 times the letter 1, the images are 1 2 1^-1 and 1 2^-5600 (-2 -1) 2^5600 1^-1; those of the
        # square are 1 (-2 -1) 1^-1 and 1 (1 2)^5600 1 (1 2)^-5600 1^-1.
        self.assertEqual(stand.length, 6 * 5600 + 3)
        self.assertTrue(stand.length <= 40000 < 8 * 5600)
        self.assertEqual(stand_power(stand, 1), stand)
        for many in (2, 3, 4):
            self.assert_raises_with(TooMany, "most", 40000, stand_power, stand, many)
        shorter = rose_stand(turned_by(2, (1,) * 200) * third * turned_by(2, (-1,) * 200))
        self.assertEqual(stand_power(shorter, 3).images, ((1,), (2,)))

    def test_ties_that_would_be_led_to_nothing(self):
        # The ties 1 and 2 have one image, which goes back along the one and along the other.
        pairs, words = ((0, 1), (0, 2), (1, 2), (0, 0)), ((), (), (1,), (2,))
        stand = Stand(pairs, words, ((-1, 2), (-1, 2), (-2, 1, 3), (-1, 4) + (1, 3, -2) * 100 + (1,)))
        for many in (2, 3, 12):
            self.assert_raises_with(Refused, "reason", ("empty", 1), stand_power, stand, many)
        self.assert_raises_with(Refused, "reason", ("empty", 1), behind, stand, stand)
        idle = Stand(pairs, words, brute.idle(4))
        self.assertEqual([behind(stand, idle), behind(idle, stand)], [stand, stand])
        # The least such tie is told, and lengths come ahead of it.
        def longer(many):
            """The stand that leads the tie 4 along the round of the tie 3 so many times more."""
            return Stand(pairs, words, ((1,), (2,), (3,), (4,) + (1, 3, -2) * many))
        other = stand
        while other.length + 390 <= 40000:
            other = behind(longer(130), other)
        other = behind(longer((40000 - other.length) // 3), other)
        self.assertTrue(39990 <= other.length <= 40000)
        self.assert_raises_with(TooMany, "most", 40000, behind, stand, other)

    def test_wrong_inputs(self):
        self.assert_refuses(behind, (HALF, HALF), [STAND, STAND])
        self.assert_refuses(stand_power, (HALF, 2), [STAND, (InvalidNumber, "given", integers_but(1, 12))])
        others = [ROSE, Stand(TIES, ((-1,), (2,), ()), IMAGES), rose_stand(THREE)]
        for other in others:
            self.assert_raises_with(InvalidOperation, None, None, behind, HALF, other)
            self.assert_raises_with(InvalidOperation, None, None, behind, other, HALF)
        self.assert_raises_with(InvalidStand, None, None, behind, ROSE, None)


class RoadsOfWords(WrongInputs):
    def test_drawn_words(self):
        for rng, stand, goals in drawn_stands(9, 80):
            word = drawn.word(rng, stand.letters, 10)
            road = road_of(stand, word)
            self.assertTrue(stand.web.is_road(road) and road == brute.ring(road))
            self.assertEqual(tight_round(stand.web, road), road)
            self.assertEqual(brute.ring(brute.reading(stand.words, road)), brute.ring(word))
            self.assertEqual(word_of(stand, road), brute.reading(stand.words, road))
            goal = brute.told(goals, word)
            if len(goal) <= 200:
                self.assertEqual(road_of(stand, goal), brute.ring(brute.led(stand.images, road)))

    def test_words_read_from_roads(self):
        for rng, stand, _ in drawn_stands(10, 60):
            pairs = stand.web.ties
            start = rng.choice(brute.points(pairs))
            road = drawn.road(rng, pairs, start, rng.randint(0, 9))
            self.assertEqual(word_of(stand, road), brute.reading(stand.words, road))
            home = brute.tree_road(pairs, brute.end(pairs, road[-1]), start) if road else ()
            word = word_of(stand, road + home)
            if len(word) <= 200:
                self.assertEqual(road_of(stand, word), brute.ring(road + home))

    def test_edges(self):
        self.assertEqual([road_of(HALF, ()), road_of(ROSE, (2, 1)), word_of(HALF, ()), word_of(HALF, (1, 3))], [(), (1, 2), (), (1,)])
        self.assertEqual(road_of(ROSE, (1,) * 200), (1,) * 200)

    def test_wrong_inputs(self):
        self.assert_refuses(road_of, (HALF, (1,)), [STAND, WORD])
        self.assert_raises_with(InvalidWord, None, None, road_of, HALF, (3,))
        self.assertTrue(WRONG_ROADS and WRONG_WORDS)
