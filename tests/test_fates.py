"""Promises [15.1] to [15.5]: rings led on, fates of rounds, and lengths of images."""

import math

import brute
import drawn
import never
from noroadback.errors import InvalidNumber, InvalidOperation, InvalidRoad, Refused, TooMany
from noroadback.rates.tables import counts, hangs_together, table_power
from noroadback.search import fates as module
from noroadback.search.fates import fate, is_fate, lengths, ring_led
from noroadback.search.lost import lost_bound
from noroadback.search.stretches import growing
from noroadback.turns.turners import Turner
from noroadback.webs.changes import halved
from noroadback.webs.stands import Stand, rose_stand
from wrong import ROAD, STAND, STRANGE, WrongInputs, integers_but

ROSE = rose_stand(Turner(((1, 2), (1,))))
LATE = rose_stand(Turner(((1, 2), (-1,))))
PLAIN = rose_stand(Turner(((1,), (2, 1))))
HALF = Stand(((0, 1), (0, 0), (1, 0)), ((1,), (2,), ()), ((1, 3), (1, 3), (2,)))
THETA = Stand(((0, 1), (0, 1), (0, 1)), ((), (1,), (2,)), ((2,), (3,), (1,)))


def led_on(stand, ring):
    """The ring of what a ring is led to."""
    return brute.ring(brute.led(stand.images, ring))


def grows_by(stand, weights, fraction):
    """Whether the weights of all images are at least the fraction times those of the ties."""
    return all(fraction[1] * led >= fraction[0] * weight for led, weight in zip(never.sums(stand, weights), weights))


def stretch(stand, ring, place):
    """The stretch from a place, None if it is endless."""
    images = never.images_of(stand)
    if never.is_open(images, ring + ring):
        return None
    road = ()
    while never.is_open(images, road + (ring[(place + len(road)) % len(ring)],)):
        road += (ring[(place + len(road)) % len(ring)],)
    return road


def is_long(stand, ring, place, weights, fraction):
    """Whether the stretch from a place is long."""
    road = stretch(stand, ring, place)
    used = {abs(entry) for image in stand.images for entry in image}
    lost = sum(never.sums(stand, weights)) - sum(weights[tie - 1] for tie in used)
    return road is None or (fraction[0] - fraction[1]) * sum(weights[abs(tie) - 1] for tie in road) > 2 * lost * fraction[1]


def small(seed, many):
    """Stands that never turn back and hang together, of at most 8 ties and with a bound of at most 24."""
    for rng, stand in never.stands(seed, many, 14, 8):
        if stand.size <= 8 and lost_bound(stand) <= 24 and hangs_together(counts(stand)):
            yield rng, stand


class Constants(WrongInputs):
    def test_constants(self):
        names = ("MOST_ROUND", "MOST_TIES", "MOST_LED", "MOST_LOST", "MOST_POWER", "MOST_STEPS")
        self.assertEqual([getattr(module, name) for name in names], [24, 8, 40000, 24, 12, 200])


class Rings(WrongInputs):
    def test_drawn_rounds(self):
        rng, most = drawn.dice(1), 0
        for number in range(120):
            stand = Stand(*drawn.parts(rng, 1 + number % 5, 3)[:3])
            road = never.tight_round(rng, stand, 8)
            ring = brute.ring(road)
            for many in range(4):
                self.assertEqual(ring_led(stand, road, many), ring)
                self.assertEqual(ring_led(stand, brute.rotations(road)[-1], many), ring)
                most = max(most, len(ring))
                ring = led_on(stand, ring)
        self.assertGreater(most, 100)

    def test_unlike_rings_are_led_to_unlike_ones(self):
        rng = drawn.dice(2)
        for number in range(40):
            stand = Stand(*drawn.parts(rng, 2, 3)[:3])
            rings = {brute.ring(never.tight_round(rng, stand, 6)) for _ in range(20)}
            self.assertEqual(len({ring_led(stand, ring, 1) for ring in rings}), len(rings))

    def test_powers_0_and_12_and_others(self):
        self.assertEqual([ring_led(ROSE, (2, 1), 0), len(ring_led(ROSE, (2,), 12))], [(1, 2), 233])
        self.assertEqual(ring_led(ROSE, (1, 2, -1, -2), 12), brute.ring((1, 2, -1, -2)))
        for many in (-1, 13, 10 ** 60):
            self.assert_raises_with(InvalidNumber, "given", many, ring_led, ROSE, (1,), many)

    def test_rounds_of_24_and_25_ties(self):
        self.assertEqual(ring_led(ROSE, (2,) * 24, 1), (1,) * 24)
        for road in [(2,) * 25, (), (1, 2, -1), (1, -1), (1, 1, -1)]:
            self.assert_raises_with(InvalidRoad, None, None, ring_led, ROSE, road, 1)
        # These are tight roads; the first one is a round, and no tight round.
        for road in [(1, 3, 2, -3, -1), (1,), (1, 3, 1)]:
            self.assert_raises_with(InvalidRoad, None, None, ring_led, HALF, road, 1)
        self.assertEqual(ring_led(HALF, (3, 1), 0), (1, 3))

    def test_rings_of_40000_ties_and_above(self):
        # Each tie 2 comes to 357 ties more by a power: 16 of them have 40,000 ties at the power 7.
        stand = Stand(((0, 0), (0, 0)), ((1,), (2,)), ((1,), (2,) + (1,) * 357))
        self.assertEqual(len(ring_led(stand, (2,) * 16, 7)), 40000)
        self.assertEqual(len(ring_led(stand, (2,) * 16 + (1,), 6)), 16 * 2143 + 1)
        for road, many in [((2,) * 16 + (1,), 7), ((2,) * 16, 8), ((2,) * 16, 12), ((2,) * 17, 7)]:
            self.assert_raises_with(TooMany, "most", 40000, ring_led, stand, road, many)
        self.assertEqual(len(ring_led(stand, (2, -1, -2, 1), 12)), 4)

    def test_long_images(self):
        tall = rose_stand(Turner(((1, 2), (1,))).power(20))
        self.assertEqual([len(ring_led(tall, (2,), 1)), len(ring_led(tall, (1, 1), 1))], [10946, 35422])
        for road, many in [((1, 1, 1), 1), ((2,), 2), ((1,), 12), ((2,) * 24, 12)]:
            self.assert_raises_with(TooMany, "most", 40000, ring_led, tall, road, many)
        self.assertEqual(len(ring_led(tall, (1, 2, -1, -2), 12)), 4)

    def test_wrong_inputs(self):
        self.assert_refuses(ring_led, (HALF, (1, 3), 1), [STAND, ROAD, (InvalidNumber, "given", integers_but(0, 12))])


class Fates(WrongInputs):
    def assert_right(self, stand, road, paper):
        """The paper tells the fate, by the test's own rings, gates and sums."""
        ring = brute.ring(road)
        self.assertIs(is_fate(stand, road, paper), True)
        if paper[0] == "round":
            rings = [ring]
            for _ in range(paper[1]):
                rings.append(led_on(stand, rings[-1]))
            self.assertEqual([many for many in range(1, len(rings)) if rings[many] == ring], [paper[1]])
            return
        name, power, place, weights, fraction = paper
        for _ in range(power):
            ring = led_on(stand, ring)
            self.assertNotEqual(ring, brute.ring(road))
            self.assertLessEqual(len(ring), 40000)
        self.assertEqual((name, len(weights)), ("grows", stand.size))
        self.assertTrue(0 <= place < len(ring) and min(weights) > 0)
        self.assertTrue(fraction[0] > fraction[1] > 0 and math.gcd(*fraction) == 1)
        self.assertTrue(grows_by(stand, weights, fraction) and is_long(stand, ring, place, weights, fraction))

    def test_drawn_rounds(self):
        kinds = {}
        for rng, stand in small(3, 260):
            for _ in range(4):
                road = never.tight_round(rng, stand, rng.choice([3, 8, 24]))
                paper = fate(stand, road)
                self.assert_right(stand, road, paper)
                self.assertEqual(fate(stand, brute.rotations(road)[-1])[0], paper[0])
                kinds[paper[:2]] = kinds.get(paper[:2], 0) + 1
        self.assertTrue(set(kinds) >= {("grows", 0), ("grows", 1), ("round", 1), ("round", 2), ("grows", 2)}, kinds)

    def test_rounds_that_grow_do_grow(self):
        for rng, stand in small(4, 60):
            road = never.tight_round(rng, stand, 6)
            if fate(stand, road)[0] == "grows":
                ring, sizes = brute.ring(road), []
                while len(ring) < 600 and len(sizes) < 40:
                    sizes.append(len(ring))
                    ring = led_on(stand, ring)
                self.assertGreater(len(ring), 2 * min(sizes))
                self.assertNotIn(brute.ring(road), [ring])

    def test_with_the_rate_1_all_come_round(self):
        rng = drawn.dice(5)
        for number in range(40):
            letters = 1 + number % 5
            names = rng.sample(range(1, letters + 1), letters)
            stand = rose_stand(Turner(tuple((rng.choice([1, -1]) * name,) for name in names)))
            if hangs_together(counts(stand)):
                road = never.tight_round(rng, stand, 12)
                paper = fate(stand, road)
                self.assertEqual(paper[0], "round")
                self.assert_right(stand, road, paper)
        self.assertEqual([fate(THETA, (1, -2)), fate(THETA, (1, -2, 3, -2))[0]], [("round", 3), "round"])

    def test_values_near_a_right_paper(self):
        for rng, stand in small(6, 60):
            road = never.tight_round(rng, stand, 10)
            paper = fate(stand, road)
            if paper[0] == "round":
                for many in (paper[1] + 1, paper[1] - 1, 2 * paper[1], 0, -1, 10 ** 5000, str(paper[1]), None, (paper[1],)):
                    self.assertIs(is_fate(stand, road, ("round", many)), False)
                if paper[1] == 1:
                    self.assertIs(is_fate(stand, road, ("round", True)), False)
                continue
            self.assertIs(is_fate(stand, road, ("round", rng.randint(1, 6))), False)
            name, power, place, weights, fraction = paper
            ring = brute.ring(road)
            for many in range(power + 3):
                for at in range(-1, min(len(ring) + 2, 40)):
                    right = 0 <= at < len(ring) and is_long(stand, ring, at, weights, fraction)
                    self.assertIs(is_fate(stand, road, ("grows", many, at, weights, fraction)), right)
                ring = led_on(stand, ring)
            for near in [("grows", power, place, weights + (1,), fraction), ("grows", power, place, weights[:-1], fraction),
                         ("grows", power, place, (0,) * stand.size, fraction), ("grows", power, place, list(weights), fraction),
                         ("grows", power, place, weights, (1, 1)), ("grows", power, place, weights, (1, 2)), paper + (1,), list(paper),
                         ("grows", power, place, weights, (2 * fraction[0], 2 * fraction[1])), ("grows", power, place, weights, list(fraction)),
                         ("grows", power, place, weights, (99, 1)), ("round",) + paper[1:], ("grows", -1, place, weights, fraction),
                         ("grows", power, place, weights, (fraction[0], -fraction[1])), ("grows", str(power), place, weights, fraction),
                         ("grows", power, None, weights, fraction), ("grows", power, place, (True,) * stand.size, fraction)]:
                self.assertIs(is_fate(stand, road, near), False)

    def test_weightings_and_fractions_of_others(self):
        for rng, stand in small(7, 80):
            road = never.tight_round(rng, stand, 24)
            ring = brute.ring(road)
            for _ in range(6):
                weights = tuple(rng.randint(1, 6) * 10 ** rng.choice([0, 0, 80]) for _ in range(stand.size))
                top, bottom = rng.choice([(3, 2), (5, 4), (9, 8), (2, 1), (10 ** 90 + 1, 10 ** 90)])
                place = rng.randrange(len(ring))
                right = grows_by(stand, weights, (top, bottom)) and is_long(stand, ring, place, weights, (top, bottom))
                self.assertIs(is_fate(stand, road, ("grows", 0, place, weights, (top, bottom))), right)

    def test_a_stretch_whose_weight_is_just_twice_the_bound(self):
        # Weights (3, 2) are led to (5, 3), so that the bound is 3 and stretches of 6 / (fraction - 1) are not long.
        done = 0
        for many in range(3, 10):
            road = (1,) * many + (-2,)
            ring, weights = brute.ring(road), (3, 2)
            for place in range(len(ring)):
                part = stretch(ROSE, ring, place)
                if part is None or sum(weights[abs(tie) - 1] for tie in part) < 12:
                    continue
                weight = sum(weights[abs(tie) - 1] for tie in part)
                divisor = math.gcd(weight + 6, weight)
                just = ((weight + 6) // divisor, weight // divisor)
                self.assertIs(is_fate(ROSE, road, ("grows", 0, place, weights, just)), False)
                more = ((weight * 10 ** 70 + 6 * 10 ** 70 + 1), weight * 10 ** 70)
                divisor = math.gcd(*more)
                more = (more[0] // divisor, more[1] // divisor)
                self.assertIs(is_fate(ROSE, road, ("grows", 0, place, weights, more)), 2 * more[0] <= 3 * more[1])
                done += 1
        self.assertGreater(done, 10)

    def test_an_endless_stretch(self):
        for place in (0, 1, 2):
            value = ("grows", 0, place, (3, 2), (1001, 1000))
            self.assertIs(is_fate(ROSE, (1, 1, 2), value), True)
        self.assertIs(is_fate(ROSE, (1,), ("grows", 5, 7, (3, 2), (3, 2))), True)
        self.assertIs(is_fate(ROSE, (1,), ("grows", 5, 13, (3, 2), (3, 2))), False)
        self.assertIs(is_fate(ROSE, (1,), ("grows", 5, 12, (3, 2), (3, 2))), True)

    def test_rings_of_40000_ties_and_above(self):
        # 28,657 ties are there at the power 21, and 46,368 at 22.
        for power, told in [(21, True), (22, False), (23, False), (10 ** 100, False), (10 ** 5000, False)]:
            self.assertIs(is_fate(ROSE, (1,), ("grows", power, 0, (3, 2), (3, 2))), told)
        self.assertIs(is_fate(ROSE, (1, 2, -1, -2), ("grows", 10 ** 5000, 0, (3, 2), (3, 2))), False)

    def test_rounds_of_24_and_25_ties(self):
        for road in [(1,) * 24, (1, 2, -1, -2) * 6, (2, -1) * 12]:
            self.assert_right(ROSE, road, fate(ROSE, road))
        for road in [(1,) * 25, (), (1, 2, -1), (1, -1)]:
            for call in (fate, is_fate):
                given = (ROSE, road) if call is fate else (ROSE, road, None)
                self.assert_raises_with(InvalidRoad, None, None, call, *given)
        for road in [(1,), (1, 3, 2, -3, -1), (1, 3, 1)]:
            self.assert_raises_with(InvalidRoad, None, None, fate, HALF, road)

    def test_stands_of_8_and_9_ties(self):
        stand = rose_stand(Turner(((2,), (3,), (4, 1), (5, 2), (1, 2))))
        for tie in (3, 4, 5):
            stand = halved(stand, tie, 1)
        rng = drawn.dice(8)
        self.assertEqual(stand.size, 8)
        for _ in range(10):
            road = never.tight_round(rng, stand, 24)
            self.assert_right(stand, road, fate(stand, road))
        nine = halved(stand, [len(image) > 1 for image in stand.images].index(True) + 1, 1)
        road = never.tight_round(rng, nine, 9)
        self.assertEqual(nine.size, 9)
        self.assert_raises_with(TooMany, "most", 8, fate, nine, road)
        self.assert_raises_with(TooMany, "most", 8, is_fate, nine, road, None)

    def test_the_bound_24_and_above(self):
        edge = rose_stand(Turner(((1,) * 24 + (2,), (1,))))
        self.assertEqual(lost_bound(edge), 24)
        for road in [(2,), (1, 2, -1, -2), (1, -2), (2, 1, 1)]:
            self.assert_right(edge, road, fate(edge, road))
        above = rose_stand(Turner(((1,) * 25 + (2,), (1,))))
        self.assertEqual(lost_bound(above), 25)
        self.assert_raises_with(TooMany, "most", 24, fate, above, (1,))
        self.assert_raises_with(TooMany, "most", 24, is_fate, above, (1,), None)

    def test_the_sequence_of_errors(self):
        back = rose_stand(Turner(((1, 2), (-1,)) + tuple((letter,) + (1,) * 40 for letter in (3, 4, 5))))
        self.assert_raises_with(InvalidRoad, None, None, fate, back, ())
        self.assert_raises_with(Refused, "reason", ("back",), fate, back, (1,))
        apart = rose_stand(Turner(((1,), (2,) + (1,) * 40)))
        self.assert_raises_with(Refused, "reason", ("apart",), fate, apart, (1,))
        self.assert_raises_with(Refused, "reason", ("apart",), is_fate, PLAIN, (1,), None)
        for stand in list(never.turning_back(9, 40))[:10]:
            self.assert_raises_with(Refused, "reason", ("back",), fate, stand, (1,))
            self.assert_raises_with(Refused, "reason", ("back",), is_fate, stand, (1,), None)
        many = rose_stand(Turner(((1,) * 30 + (2,), (1,))))
        while many.size < 9:
            many = halved(many, 1, 1)
        self.assertGreater(lost_bound(many), 24)
        self.assert_raises_with(TooMany, "most", 8, fate, many, never.tight_round(drawn.dice(10), many, 20))

    def test_wrong_inputs(self):
        self.assert_refuses(fate, (HALF, (1, 3)), [STAND, ROAD])
        self.assert_refuses(is_fate, (HALF, (1, 3), None), [STAND, ROAD, None])
        self.assert_judges_strange(is_fate, (ROSE, (1,)), [])
        for value in STRANGE:
            for near in [("round", value), ("grows", value, 0, (3, 2), (3, 2)), ("grows", 0, value, (3, 2), (3, 2)),
                         ("grows", 0, 0, value, (3, 2)), ("grows", 0, 0, (3, 2), value), (value, 0, 0, (3, 2), (3, 2))]:
                self.assertIs(is_fate(ROSE, (1,), near), False)
        self.assertIs(is_fate(ROSE, (1,), ("grows", False, 0, (3, 2), (3, 2))), False)
        self.assertIs(is_fate(ROSE, (1,), ("grows", 0, False, (3, 2), (3, 2))), False)
        self.assertIs(is_fate(ROSE, (1,), ("grows", 0, 0, (3, 2), (3, 2))), True)


class Weightings(WrongInputs):
    def test_there_is_one_below_the_rate(self):
        for rng, stand in small(11, 60):
            told = growing(counts(stand))
            if all(len(image) == 1 for image in stand.images):
                self.assertIsNone(told)
                continue
            weights, fraction, need = told
            self.assertTrue(fraction[0] > fraction[1] and grows_by(stand, weights, fraction))

    def test_the_number_of_turns_through_gates_never_grows(self):
        for rng, stand in never.stands(12, 80, 10, 8):
            images = never.images_of(stand)
            ring = brute.ring(never.tight_round(rng, stand, 12))
            last = len(ring)
            for _ in range(4):
                if len(ring) < 3000:
                    closed = sum(never.do_meet(images, -ring[place - 1], ring[place]) for place in range(len(ring)))
                    self.assertLessEqual(closed, last)
                    last, ring = closed, led_on(stand, ring)


class Lengths(WrongInputs):
    def test_drawn_roads(self):
        for rng, stand in never.stands(13, 100):
            road = never.open_road(rng, stand, rng.choice([1, 3, 24]))
            image, told = road, [len(road)]
            for _ in range(5):
                if len(image) < 4000:
                    image = brute.put_together(stand.images, image)
                    told.append(len(image))
            self.assertEqual(lengths(stand, road, len(told) - 1), tuple(told))
            table = table_power(counts(stand), 40)
            self.assertEqual(lengths(stand, road, 40)[40], sum(sum(table[abs(tie) - 1]) for tie in road))

    def test_powers_0_and_200_and_others(self):
        self.assertEqual(lengths(ROSE, (1,), 0), (1,))
        row = lengths(ROSE, (1,), 200)
        self.assertEqual([len(row), row[:5]], [201, (1, 2, 3, 5, 8)])
        self.assertTrue(all(row[place] == row[place - 1] + row[place - 2] for place in range(2, 201)))
        for many in (-1, 201):
            self.assert_raises_with(InvalidNumber, "given", many, lengths, ROSE, (1,), many)

    def test_roads_of_24_and_25_ties(self):
        self.assertEqual(lengths(ROSE, (1,) * 24, 1), (24, 48))
        for road in [(1,) * 25, (), (1, -1)]:
            self.assert_raises_with(InvalidRoad, None, None, lengths, ROSE, road, 1)
        self.assertEqual(lengths(HALF, (1, 3, 1), 2), (3, 5, 8))

    def test_roads_that_are_not_open(self):
        for rng, stand in never.stands(14, 60):
            road = never.tight_road(rng, stand, 8)
            if never.is_open(never.images_of(stand), road):
                self.assertEqual(lengths(stand, road, 0), (len(road),))
            else:
                self.assert_raises_with(InvalidOperation, None, None, lengths, stand, road, 3)

    def test_stands_that_turn_back(self):
        for stand in list(never.turning_back(15, 40))[:10] + [LATE]:
            self.assert_raises_with(Refused, "reason", ("back",), lengths, stand, (1,), 3)
        self.assert_raises_with(Refused, "reason", ("back",), lengths, LATE, (-1, 2), 3)
        self.assertEqual(lengths(PLAIN, (2,), 3), (1, 2, 3, 4))

    def test_wrong_inputs(self):
        self.assert_refuses(lengths, (HALF, (1, 3), 1), [STAND, ROAD, (InvalidNumber, "given", integers_but(0, 200))])
