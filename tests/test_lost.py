"""Promises [14.1] to [14.3]: what images of roads have in common, and what is lost where they meet."""

import brute
import drawn
import never
from noroadback.errors import InvalidOperation, InvalidRoad, Refused, TooMany
from noroadback.rates.gates import is_open
from noroadback.search import lost as module
from noroadback.search.lost import common_of, is_most_lost, lost_bound, most_lost
from noroadback.turns.turners import Turner
from noroadback.webs.changes import halved
from noroadback.webs.stands import Stand, rose_stand, stand_power
from wrong import ROAD, STAND, STRANGE, WrongInputs

ROSE = rose_stand(Turner(((1, 2), (1,))))
LATE = rose_stand(Turner(((1, 2), (-1,))))
HALF = Stand(((0, 1), (0, 0), (1, 0)), ((1,), (2,), ()), ((1, 3), (1, 3), (2,)))
LINE = Stand(((0, 0), (0, 1)), ((1,), ()), ((1,), (1, 2)))


def walked(stand):
    """The most that images of open roads from one point, with unlike first ties, have in common: all are walked along."""
    images, most = never.images_of(stand), 0
    following = {tie: never.following(stand, images, tie) for tie in images}
    starts = [(one, other) for one in images for other in images if one < other]
    waiting = [(one, images[one], other, images[other]) for one, other in starts
               if brute.begin(stand.web.ties, one) == brute.begin(stand.web.ties, other)]
    while waiting:
        one, first, other, second = waiting.pop()
        number = never.common(first, second)
        most = max(most, number)
        if number == len(first):
            waiting += [(tie, first + images[tie], other, second) for tie in following[one]]
        elif number == len(second):
            waiting += [(one, first, tie, second + images[tie]) for tie in following[other]]
    return most


class Constants(WrongInputs):
    def test_constants(self):
        self.assertEqual([module.MOST_LOST, module.MOST_ROAD], [400, 400])


class Bounds(WrongInputs):
    def test_drawn_stands(self):
        rng = drawn.dice(1)
        for number in range(60):
            stand = Stand(*drawn.parts(rng, 1 + number % 5, 4)[:3])
            used = {abs(entry) for image in stand.images for entry in image}
            self.assertEqual(lost_bound(stand), sum(map(len, stand.images)) - len(used))

    def test_ties_that_stand_in_no_image(self):
        self.assertEqual(lost_bound(Stand(((0, 0), (0, 1)), ((1,), ()), ((1,), (1,)))), 1)

    def test_no_two_tight_roads_lose_more(self):
        rng, found = drawn.dice(2), set()
        for number in range(150):
            stand = Stand(*drawn.parts(rng, 1 + number % 4, 3)[:3])
            for _ in range(20):
                one, other = never.tight_road(rng, stand, 12), never.tight_road(rng, stand, 12)
                if one[0] != other[0] and brute.begin(stand.web.ties, one[0]) == brute.begin(stand.web.ties, other[0]):
                    found.add(lost_bound(stand) - common_of(stand, one, other))
        self.assertGreaterEqual(min(found), 0)

    def test_wrong_inputs(self):
        self.assert_refuses(lost_bound, (HALF,), [STAND])


class Common(WrongInputs):
    def test_drawn_roads(self):
        rng, found = drawn.dice(3), set()
        for number in range(250):
            stand = Stand(*drawn.parts(rng, 1 + number % 5, 3)[:3])
            one, other = never.tight_road(rng, stand, 9), never.tight_road(rng, stand, 9)
            if number % 3 == 0:
                other = one[:rng.randint(1, len(one))]
            if brute.begin(stand.web.ties, one[0]) != brute.begin(stand.web.ties, other[0]):
                self.assert_raises_with(InvalidOperation, None, None, common_of, stand, one, other)
                continue
            told = never.common(brute.led(stand.images, one), brute.led(stand.images, other))
            self.assertEqual(common_of(stand, one, other), told)
            self.assertEqual(common_of(stand, other, one), told)
            self.assertEqual(common_of(stand, one, one), len(brute.led(stand.images, one)))
            found.add(told)
        self.assertTrue(found >= {0, 1, 2, 3})

    def test_a_road_that_is_led_to_nothing(self):
        self.assertEqual([common_of(HALF, (-1, 2), (-1, 2)), common_of(HALF, (-1, 2), (3,))], [0, 0])

    def test_roads_of_1_and_400_ties_and_of_401(self):
        self.assertEqual(common_of(ROSE, (1,) * 400, (1,)), 2)
        self.assertEqual(common_of(ROSE, (1,) * 400, (1,) * 399), 798)
        self.assertEqual(common_of(HALF, (1, 3) * 200, (1, 3) * 200), 600)
        for one, other in [((1,) * 401, (1,)), ((1,), (1,) * 401), ((), (1,)), ((1,), ()), ((1, 2, -2), (1,)), ((1,), (-1, 1))]:
            self.assert_raises_with(InvalidRoad, None, None, common_of, ROSE, one, other)

    def test_roads_from_unlike_points(self):
        self.assert_raises_with(InvalidOperation, None, None, common_of, HALF, (1,), (3,))
        self.assert_raises_with(InvalidRoad, None, None, common_of, HALF, (1,), (1, 1))
        self.assert_raises_with(InvalidRoad, None, None, common_of, HALF, (1, 1), (3,))

    def test_long_images(self):
        long = rose_stand(Turner(((1, 2), (1,))).power(20))
        self.assertEqual(common_of(long, (1,) * 400, (1,) * 400), 400 * len(long.images[0]))
        self.assertEqual(common_of(long, (1,), (2,)), len(long.images[1]))

    def test_wrong_inputs(self):
        self.assert_refuses(common_of, (HALF, (1,), (2,)), [STAND, ROAD, ROAD])


class Lost(WrongInputs):
    def assert_right(self, stand, triple):
        """The triple tells two open roads that have so many ties in common, and are short."""
        number, one, other = triple
        images = never.images_of(stand)
        self.assertEqual([type(triple), type(number), type(one), type(other)], [tuple, int, tuple, tuple])
        for road in (one, other):
            self.assertTrue(stand.web.is_road(road) and 1 <= len(road) <= number + 1)
            self.assertTrue(brute.is_bare(road) and never.is_open(images, road))
        self.assertNotEqual(one[0], other[0])
        self.assertEqual(stand.web.begin(one[0]), stand.web.begin(other[0]))
        self.assertEqual(never.common(brute.put_together(stand.images, one), brute.put_together(stand.images, other)), number)
        self.assertIs(is_most_lost(stand, triple), True)
        self.assertIs(is_most_lost(stand, (number, other, one)), True)

    def test_drawn_stands(self):
        found = set()
        for rng, stand in never.stands(4, 200):
            triple = most_lost(stand)
            self.assert_right(stand, triple)
            self.assertEqual(triple[0], walked(stand))
            self.assertLessEqual(triple[0], lost_bound(stand))
            found.add(triple[0])
        self.assertTrue(found >= {0, 1, 2, 3, 4, 5, 6})

    def test_values_near_a_right_one(self):
        for rng, stand in never.stands(5, 60):
            number, one, other = most_lost(stand)
            images = never.images_of(stand)
            for near in [(number + 1, one, other), (number - 1, one, other), (number, one, one), (number, one), (number, one, other, 0),
                         [number, one, other], (number, list(one), other), (number, one, ()), (number, (), other), (str(number), one, other),
                         (number, one + (-one[-1],), other), (number, one, (99,)), (None, one, other), (number, None, other), (number, one, 1)]:
                self.assertIs(is_most_lost(stand, near), False)
            if number == 1:
                self.assertIs(is_most_lost(stand, (True, one, other)), False)
            for _ in range(6):
                first, second = never.open_road(rng, stand, 6), never.open_road(rng, stand, 6)
                same = brute.begin(stand.web.ties, first[0]) == brute.begin(stand.web.ties, second[0])
                told = never.common(brute.put_together(stand.images, first), brute.put_together(stand.images, second))
                right = same and first[0] != second[0] and told == number
                self.assertIs(is_most_lost(stand, (number, first, second)), right)
            for road in [never.tight_road(rng, stand, 6) for _ in range(6)]:
                if not never.is_open(images, road):
                    self.assertIs(is_most_lost(stand, (number, road, other)), False)

    def test_longer_roads_are_right_too(self):
        for rng, stand in never.stands(6, 40):
            number, one, other = most_lost(stand)
            images = never.images_of(stand)
            for _ in range(30):
                if never.following(stand, images, one[-1]):
                    one += (rng.choice(never.following(stand, images, one[-1])),)
            told = never.common(brute.put_together(stand.images, one), brute.put_together(stand.images, other))
            self.assertIs(is_most_lost(stand, (number, one, other)), told == number)
        self.assertIs(is_most_lost(ROSE, (1, (1,) * 5000, (2,) + (1,) * 3000)), True)

    def test_nothing_is_in_common_for_unlike_gates(self):
        for rng, stand in never.stands(7, 60):
            images = never.images_of(stand)
            one, other = never.open_road(rng, stand, 5), never.open_road(rng, stand, 5)
            if stand.web.begin(one[0]) == stand.web.begin(other[0]) and not never.do_meet(images, one[0], other[0]):
                self.assertEqual(common_of(stand, one, other), 0)
                self.assertTrue(is_open(stand, brute.back(one) + other))

    def test_stands_with_an_end_and_with_one_letter(self):
        for stand in (LINE, rose_stand(Turner(((-1,),))), rose_stand(Turner(((1,),))), rose_stand(Turner(((1,), (2, 1))))):
            self.assert_right(stand, most_lost(stand))
            self.assertEqual(most_lost(stand)[0], walked(stand))

    def test_stands_that_turn_back(self):
        for stand in list(never.turning_back(8, 60))[:20] + [LATE]:
            self.assert_raises_with(Refused, "reason", ("back",), most_lost, stand)
            self.assert_raises_with(Refused, "reason", ("back",), is_most_lost, stand, None)
        loops = ((0, 0),) * 4
        far = Stand(loops, ((1,), (2,), (3,), (4,)), ((1, 2), (-1,), (3,) + (1,) * 399, (4,) + (1,) * 399))
        self.assertGreater(lost_bound(far), 400)
        self.assert_raises_with(Refused, "reason", ("back",), most_lost, far)
        self.assert_raises_with(Refused, "reason", ("back",), is_most_lost, far, None)

    def test_the_bound_400_and_above(self):
        loops, words = ((0, 0),) * 3, ((1,), (2,), (3,))
        edge = Stand(loops, words, ((1,) * 399 + (2,), (1,), (3, 1)))
        self.assertEqual(lost_bound(edge), 400)
        self.assert_right(edge, most_lost(edge))
        self.assertEqual(most_lost(edge)[0], walked(edge))
        above = Stand(loops, words, ((1,) * 399 + (2,), (1,), (3, 1, 1)))
        self.assertEqual(lost_bound(above), 401)
        self.assert_raises_with(TooMany, "most", 400, most_lost, above)
        self.assert_raises_with(TooMany, "most", 400, is_most_lost, above, None)

    def test_stands_with_24_ties(self):
        rng = drawn.dice(9)
        for _ in range(6):
            stand = rose_stand(never.positive(rng, 4, 30, 60))
            while stand.size < 24 and lost_bound(stand) < 300 and max(map(len, stand.images)) > 1:
                tie = max(range(1, stand.size + 1), key=lambda tie: len(stand.images[tie - 1]))
                stand = halved(stand, tie, rng.randint(1, len(stand.images[tie - 1]) - 1))
            self.assert_right(stand, most_lost(stand))

    def test_wrong_inputs(self):
        self.assert_refuses(most_lost, (ROSE,), [STAND])
        self.assert_refuses(is_most_lost, (ROSE, None), [STAND, None])
        self.assert_judges_strange(is_most_lost, (ROSE,), [])
        for value in STRANGE:
            for near in [(1, value, (2, 1)), (1, (1,), value), (value, (1,), (2, 1))]:
                self.assertIs(is_most_lost(ROSE, near), False)
        self.assertIs(is_most_lost(ROSE, (10 ** 5000, (1,), (2, 1))), False)
        self.assertIs(is_most_lost(ROSE, (1, (True,), (2, 1))), False)
        self.assertIs(is_most_lost(ROSE, (1, (1,), (2, 10 ** 5000))), False)
        self.assertIs(is_most_lost(stand_power(ROSE, 2), most_lost(stand_power(ROSE, 2))), True)
