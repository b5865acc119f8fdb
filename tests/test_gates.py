"""Promises [0.16] and [12.1] to [12.8]: firsts, gates, turns, open roads, and stands that turn back."""

import unittest

import brute
import drawn
from noroadback.errors import InvalidNumber, InvalidRoad
from noroadback.rates.gates import back_paper, closed_turns, first_of, gates, is_back_paper, is_open, turns_taken
from noroadback.rates.tables import counts
from noroadback.turns.turners import Turner
from noroadback.webs.stands import Stand, behind, led, rose_stand, stand_power
from wrong import HUGE, ROAD, STAND, WrongInputs, directed_but

ROSE = rose_stand(Turner(((1, 2), (1,))))
LATE = rose_stand(Turner(((1, 2), (-1,))))
HALF = Stand(((0, 1), (0, 0), (1, 0)), ((1,), (2,), ()), ((1, 3), (1, 3), (2,)))


def drawn_stands(seed, many):
    """Stands with short images: made from drawn moves and roads, roses, and roses without contraries."""
    rng = drawn.dice(seed)
    for number in range(many):
        letters = 1 + number % 4
        if number % 3 == 0:
            yield rng, Stand(*drawn.parts(rng, letters, 3)[:3])
        elif number % 3 == 1:
            yield rng, rose_stand(Turner(drawn.images(rng, letters, 6, 5)))
        else:
            images = brute.idle(letters)
            for move in drawn.moves(rng, letters, 6):
                if move[0] == "swap" or (len(move) == 3 and move[2] > 0):
                    images = brute.behind(images, brute.move_images(letters, move))
            yield rng, rose_stand(Turner(images))


def firsts(stand):
    """The firsts of all directed ties."""
    return {tie: brute.put_together(stand.images, (tie,))[0] for tie in brute.entries(stand.size)}


def meet(stand, one, other):
    """How often firsts are taken until two directed ties come to one, None if they never do."""
    told, steps, seen = firsts(stand), 0, set()
    while one != other:
        if (one, other) in seen:
            return None
        seen.add((one, other))
        one, other, steps = told[one], told[other], steps + 1
    return steps


def turns(road):
    """The turns of a road."""
    return {tuple(sorted((-one, other))) for one, other in zip(road, road[1:])}


def tight_powers(stand, most):
    """For each tie the least power to a greatest one at which the images, put together, are not tight; by the very roads."""
    found = {}
    roads = {tie: (tie,) for tie in range(1, stand.size + 1)}
    for power in range(1, most + 1):
        for tie, road in roads.items():
            if len(road) < 4000:
                roads[tie] = brute.put_together(stand.images, road)
                if tie not in found and not brute.is_bare(roads[tie]):
                    found[tie] = power
    return found, max(map(len, roads.values()))


class Firsts(WrongInputs):
    def test_drawn_stands(self):
        for rng, stand in drawn_stands(1, 60):
            for tie, first in firsts(stand).items():
                self.assertEqual(first_of(stand, tie), first)
                self.assertEqual(first_of(stand, tie), led(stand, (tie,))[0])

    def test_wrong_inputs(self):
        self.assert_refuses(first_of, (HALF, 1), [STAND, (InvalidNumber, "given", directed_but(3))])


class Gates(WrongInputs):
    def test_drawn_stands(self):
        for rng, stand in drawn_stands(2, 90):
            found = gates(stand)
            self.assertEqual(len(found), stand.web.points)
            closed = set()
            for point, there in enumerate(found):
                self.assertEqual(tuple(sorted(tie for gate in there for tie in gate)), stand.web.beginnings(point))
                self.assertEqual((there, [tuple(sorted(gate)) for gate in there]), (tuple(sorted(there)), list(there)))
                for one in stand.web.beginnings(point):
                    for other in stand.web.beginnings(point):
                        is_one = any(one in gate and other in gate for gate in there)
                        steps = meet(stand, one, other)
                        self.assertEqual(is_one, steps is not None)
                        self.assertTrue(steps is None or steps <= 2 * stand.size)
                        if is_one and one < other:
                            closed.add((one, other))
            self.assertEqual(closed_turns(stand), tuple(sorted(closed)))

    def test_ends_and_ties_from_a_point_to_itself(self):
        stand = Stand(((0, 0), (0, 1)), ((1,), ()), ((1,), (1, 2)))
        self.assertEqual([gates(stand), closed_turns(stand)], [(((-1,), (1, 2)), ((-2,),)), ((1, 2),)])
        self.assertEqual(gates(rose_stand(Turner(((-1,),)))), (((-1,), (1,)),))

    def test_wrong_inputs(self):
        for call in (gates, closed_turns, turns_taken, back_paper):
            self.assert_refuses(call, (HALF,), [STAND])


class Taken(unittest.TestCase):
    def test_drawn_stands(self):
        for rng, stand in drawn_stands(3, 90):
            told, first = set(), firsts(stand)
            for image in stand.images:
                told |= turns(image)
            size = -1
            while len(told) > size:
                size = len(told)
                told |= {turn for turn in [tuple(sorted((first[one], first[other]))) for one, other in told] if turn[0] != turn[1]}
            self.assertEqual(turns_taken(stand), tuple(sorted(told)))

    def test_stands_that_never_turn_back_take_open_turns(self):
        done = 0
        for rng, stand in drawn_stands(4, 90):
            if back_paper(stand)[0] == "never":
                self.assertFalse(set(turns_taken(stand)) & set(closed_turns(stand)))
                road, found = (rng.randint(1, stand.size),), set()
                for _ in range(8):
                    if len(road) < 3000:
                        road = brute.put_together(stand.images, road)
                        found |= turns(road)
                self.assertLessEqual(found, set(turns_taken(stand)))
                done += 1
        self.assertGreater(done, 20)


class Open(WrongInputs):
    def test_drawn_roads(self):
        found = {True: 0, False: 0}
        for rng, stand in drawn_stands(5, 150):
            pairs = stand.web.ties
            road = drawn.road(rng, pairs, rng.choice(brute.points(pairs)), rng.randint(0, 5))
            told = brute.is_bare(road) and all(meet(stand, one, other) is None for one, other in turns(road))
            self.assertIs(is_open(stand, road), told)
            found[told] += len(road) > 1
            if told:
                # The images of an open road, put together, are open if those of its ties are.
                if all(is_open(stand, image) for image in stand.images):
                    self.assertIs(is_open(stand, brute.put_together(stand.images, road)), True)
        self.assertTrue(min(found.values()) > 15)

    def test_edges(self):
        self.assertEqual([is_open(HALF, ()), is_open(HALF, (1,)), is_open(HALF, (2, -2)), is_open(HALF, (-2, 1)), is_open(HALF, (1, 3) * 5000)],
                         [True, True, False, False, True])

    def test_wrong_inputs(self):
        self.assert_refuses(is_open, (HALF, (1,)), [STAND, ROAD])
        self.assert_raises_with(InvalidRoad, None, None, is_open, HALF, (1, 1))


class TurningBack(WrongInputs):
    def test_drawn_stands(self):
        kinds = {"never": 0, "back": 0}
        for rng, stand in drawn_stands(6, 150):
            paper = back_paper(stand)
            kinds[paper[0]] += 1
            told, longest = tight_powers(stand, 2 * stand.size)
            is_never = all(meet(stand, one, other) is None for image in stand.images for one, other in turns(image))
            self.assertEqual(paper[0] == "never", is_never)
            self.assertIs(is_back_paper(stand, paper), True)
            if is_never:
                self.assertEqual((paper, told), (("never", gates(stand)), {}))
                continue
            self.assertTrue(2 <= paper[1] <= 2 * stand.size)
            if told:
                least = min(told.values())
                self.assertEqual(paper, ("back", least, min(tie for tie in told if told[tie] == least)))
            for tie in range(1, stand.size + 1):
                for power in range(0, 2 * stand.size + 1):
                    if tie in told or longest < 4000:
                        value = ("back", power, tie)
                        self.assertIs(is_back_paper(stand, value), tie in told and power >= told[tie])
            self.assertIs(is_back_paper(stand, ("never", gates(stand))), False)
        self.assertTrue(min(kinds.values()) > 30)

    def test_powers_of_any_length(self):
        for power, told in [(10 ** 5000, True), (4, True), (3, False), (0, False), (-10 ** 5000, False)]:
            self.assertIs(is_back_paper(LATE, ("back", power, 1)), told)
        self.assertEqual([is_back_paper(LATE, ("back", power, 2)) for power in (4, 5, 6)], [False, True, True])
        self.assertEqual([is_back_paper(LATE, ("back", 9, tie)) for tie in (-1, 0, 3, 10 ** 5000)], [False] * 4)

    def test_ties_that_never_come_to_a_turn(self):
        # The tie 3 is led to itself alone.
        stand = rose_stand(Turner(((1, 2), (-1,), (3,))))
        self.assertEqual([is_back_paper(stand, ("back", 100, tie)) for tie in (1, 2, 3)], [True, True, False])
        # The tie 3 is led to 2, and so turns back by one power later than 2 does.
        stand = rose_stand(Turner(((1, 2), (-1,), (2, 3))))
        told = tight_powers(stand, 8)[0]
        self.assertEqual([told[1], told[2]], [4, 5])
        self.assertEqual([is_back_paper(stand, ("back", power, 3)) for power in range(9)], [power >= told[3] for power in range(9)])

    def test_powers_of_a_stand_that_is_never_back(self):
        for rng, stand in drawn_stands(7, 60):
            if back_paper(stand)[0] == "never" and sum(map(sum, counts(stand))) < 30:
                for many in (2, 3):
                    power = stand_power(stand, many)
                    self.assertEqual(back_paper(power), ("never", gates(stand)))

    def test_one_behind_another_can_turn_back(self):
        one, other = rose_stand(Turner(((1, 2), (2,)))), rose_stand(Turner(((1,), (-1, 2))))
        self.assertEqual([back_paper(one)[0], back_paper(other)[0], back_paper(behind(one, other))[0] in ("never", "back")],
                         ["never", "never", True])

    def test_values(self):
        told = gates(ROSE)
        for value in [("never",), ("never", told, 1), ["never", told], ("never", list(told)), ("never", None), ("Never", told),
                      ("never", ((), *told)), ("never", (((-2,), (-1,), (True, 2)),)), ("never", (((-2,), (-1,), (2, 1)),)),
                      ("never", (((-2,), (-1,), (1,), (2,)),)), ("never", ()), ("back", 2, 1), (told, "never"), ("never", (told,))]:
            self.assertIs(is_back_paper(ROSE, value), False)
        self.assertIs(is_back_paper(ROSE, ("never", (((-2,), (-1,), (1, 2)),))), True)
        for value in [("back", True, 1), ("back", 5, True), ("back", 5), ("back", 5, 1, 1), ["back", 5, 1], ("back", "5", 1), ("back", 5, None),
                      ("back", 5, (1,)), ("Back", 5, 1), (5, "back", 1), ("back", HUGE, -1)]:
            self.assertIs(is_back_paper(LATE, value), False)
        self.assert_judges_strange(is_back_paper, (ROSE,), [])
        self.assert_judges_strange(is_back_paper, (LATE,), [])

    def test_long_returned_stands(self):
        long = rose_stand(Turner(((1, 2), (1,))).power(20))
        self.assertEqual(back_paper(long)[0], "never")
        self.assertIs(is_open(long, (1, 2) * 1000), True)

    def test_wrong_inputs(self):
        self.assert_refuses(is_back_paper, (HALF, None), [STAND, None])
