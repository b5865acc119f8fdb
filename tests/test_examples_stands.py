"""Each example of the document for alike turners, two letters, webs and stands."""

import unittest

from noroadback.errors import InvalidOperation, InvalidStand, Refused
from noroadback.turns.alike import (
    alike_word, exact_order, inner_word, is_alike_word, table_order, turned_by, turner_order,
)
from noroadback.turns.turners import Turner
from noroadback.turns.two import (
    base_ring, commutator_sign, is_base_letter, is_two_alike, is_two_kind, of_table, quotient_round, two_alike, two_kind,
)
from noroadback.webs.stands import (
    Stand, behind, is_stand_of, led, led_point, road_of, rose_stand, stand_fault, stand_power, turner_of, word_of,
)
from noroadback.webs.webs import (
    Web, base_naming, base_rounds, is_forest, is_naming, least_tree, pieces, reading, road_between, tight_round,
)

GROW, THREE, PLAIN = Turner(((1, 2), (1,))), Turner(((2,), (3,), (1, 2))), Turner(((1,), (2, 1)))
ROSE = rose_stand(GROW)
HALF = Stand(((0, 1), (0, 0), (1, 0)), ((1,), (2,), ()), ((1, 3), (1, 3), (2,)))
THIRD, STAYS = Turner(((2,), (-2, -1))), Turner(((1,), (2,), (1, 2, -1, -2, 3)))
BENT = turned_by(2, (1, 1)) * THIRD
THETA = Web(((0, 1), (0, 1), (0, 1)))
TIES = ((0, 1), (0, 0), (1, 0))


class AlikeExamples(unittest.TestCase):
    def test_words(self):
        found = [turned_by(2, (1,)).images, inner_word(turned_by(2, (2, 1))), inner_word(GROW), inner_word(Turner(((1,),))),
                 inner_word(Turner(((-1,),)))]
        self.assertEqual(found, [((1,), (1, 2, -1)), (2, 1), None, (), None])
        found = [alike_word(THIRD, BENT), alike_word(BENT, THIRD), is_alike_word(THIRD, BENT, (1, 1, 1)), alike_word(GROW, THIRD)]
        self.assertEqual(found, [(1, 1), (-1, -1), False, None])

    def test_orders(self):
        found = [table_order(((0, 1), (-1, -1))), table_order(((1, 1), (1, 0))), table_order(((2,),)), turner_order(GROW),
                 turner_order(STAYS), exact_order(THIRD)]
        self.assertEqual(found, [3, None, None, None, None, 3])
        found = [turner_order(THIRD), turner_order(BENT), exact_order(BENT), turner_order(Turner(((2,), (-1,)))),
                 turner_order(Turner(((-1,),)))]
        self.assertEqual(found, [(3, ()), (3, (1, 1, 2, -1, -2, -1)), None, (4, ()), (2, ())])

    def test_unlike_letters(self):
        with self.assertRaises(InvalidOperation):
            alike_word(GROW, STAYS)


class TwoExamples(unittest.TestCase):
    def test_kinds_and_rounds(self):
        found = [two_kind(GROW), is_two_kind(PLAIN, ("kept", (2, -1, -2))), is_two_kind(PLAIN, ("kept", (2,))),
                 two_kind(Turner(((2,), (-1,)))), quotient_round(GROW)]
        self.assertEqual(found, [("grows", (-1, -1, 1)), True, False, ("round", 4), (1,)])

    def test_letters_of_bases(self):
        found = [base_ring(2, 1), base_ring(1, -2), is_base_letter((1, 2, -1)), is_base_letter((1, 2, 1, 2, 2)),
                 is_base_letter((1, 1, 2, 2)), commutator_sign(GROW), commutator_sign(PLAIN)]
        self.assertEqual(found, [(1, 1, 2), (-2, -2, 1), True, True, False, -1, 1])

    def test_turners_led_to_one_another(self):
        found = [two_alike(GROW, PLAIN), is_two_alike(GROW, Turner(((2,), (2, 1))), Turner(((2,), (1,)))),
                 two_alike(Turner(((1, 2, 2, 2, 2), (1, 2, 2, 2, 2, 2))), Turner(((1, 2, 2), (1, 2, 2, 1, 2, 2, 2))))]
        self.assertEqual(found, [None, True, None])

    def test_a_wrong_determinant(self):
        with self.assertRaises(Refused) as caught:
            of_table(((2, 0), (0, 1)))
        self.assertEqual(caught.exception.reason, ("determinant",))


class WebExamples(unittest.TestCase):
    def test_webs(self):
        found = [THETA.points, THETA.rank, THETA.beginnings(1), THETA.tight((1, -2, 2, -3)), THETA.loose_points(), str(THETA)]
        self.assertEqual(found, [2, 2, (-3, -2, -1), (1, -3), (), "web of 3 ties, 2 points, rank 2"])

    def test_trees(self):
        found = [least_tree(THETA), base_rounds(THETA), road_between(THETA, 1, 0), pieces(THETA, (2, 3)), is_forest(THETA, (1,)),
                 is_forest(THETA, (1, 2))]
        self.assertEqual(found, [(1,), ((2, -1), (3, -1)), (-1,), ((2, 3),), True, False])

    def test_rounds_and_namings(self):
        found = [tight_round(THETA, (1, -2)), tight_round(THETA, (1, -2, 3, -3, 2, -1)), base_naming(THETA),
                 reading(THETA, base_naming(THETA), (2, -3))]
        self.assertEqual(found, [(-2, 1), (), ((), (1,), (2,)), (1, -2)])
        found = [is_naming(THETA, ((1,), (2,), ())), is_naming(THETA, ((), (1,), (1,))), Web(((0, 1), (1, 1))).loose_points(),
                 THETA.is_road((1, 2)), list(THETA)[2]]
        self.assertEqual(found, [True, False, (0,), False, (0, 1)])
        with self.assertRaises(InvalidOperation):
            tight_round(THETA, (1,))


class StandExamples(unittest.TestCase):
    def test_roses(self):
        found = [ROSE.size, ROSE.letters, turner_of(ROSE) == GROW, led(ROSE, (1, -2)), str(ROSE), HALF.length]
        self.assertEqual(found, [2, 2, True, (1, 2, -1), "stand of 2 letters, 2 ties, 1 points", 5])

    def test_turners_and_powers(self):
        found = [turner_of(HALF) == GROW, led_point(HALF, 1), led(HALF, (-1, 2)), is_stand_of(GROW, HALF), is_stand_of(PLAIN, HALF),
                 stand_power(HALF, 2).images]
        self.assertEqual(found, [True, 0, (), True, False, ((1, 3, 2), (1, 3, 2), (1, 3))])

    def test_roads_of_words(self):
        found = [road_of(HALF, (1, 2)), road_of(HALF, (2, 1, -2)), word_of(HALF, (1, 3, -2)), behind(HALF, HALF) == stand_power(HALF, 2)]
        self.assertEqual(found, [(1, 3, 2), (1, 3), (1, -2), True])

    def test_faults(self):
        found = [stand_fault(TIES, HALF.words, ((1,), (1, 3), (2,))), stand_fault(TIES, ((1,), (1,), ()), HALF.images),
                 stand_fault(TIES, HALF.words, ((1, 3),) * 3)]
        self.assertEqual(found, [("point", 3), ("naming",), ("short",)])
        with self.assertRaises(InvalidStand):
            Stand(TIES, HALF.words, ((1, 3), (1, 3), ()))
