"""Each example of the document for errors, words, fractions, rings, lots, turners, moves, sums and slopes."""

import unittest

from noroadback.base.fractions import compare, fraction, fraction_text
from noroadback.base.lots import (
    all_paper, are_one_lot, do_make_all, is_all_paper, is_way, lot_base, lot_rank, way_of,
)
from noroadback.base.rings import (
    are_alike, between, core, is_between, is_ring, ring, ring_number, rings_of, turned,
)
from noroadback.base.words import (
    bare, common_root, contrary, is_common_root, is_word, power, product, root, word_number, words_of,
)
from noroadback.errors import InvalidNumber, InvalidSum, InvalidTurner, InvalidWord, Refused
from noroadback.turns.moves import is_moves_of, made_by
from noroadback.turns.slopes import Sum, slope, slope_table, undone_slopes
from noroadback.turns.turners import Turner, table_determinant, table_of, table_product

GROW, THREE, PLAIN = Turner(((1, 2), (1,))), Turner(((2,), (3,), (1, 2))), Turner(((1,), (2, 1)))
SQUARE = ((1, 1), (2,))
A, B, ONE = Sum.word(2, (1,)), Sum.word(2, (2,)), Sum.word(2, ())


class WordExamples(unittest.TestCase):
    def test_words_and_products(self):
        found = [
            is_word(2, (1, 2, -1)), is_word(2, (1, -1)), is_word(2, (3,)), is_word(1, ()),
            bare(2, (1, 2, -2, -1, 2, 1, -1)), product(2, (1, 2), (-2, 1), (2,)), contrary(3, (1, -2, 3)),
        ]
        self.assertEqual(found, [True, False, False, True, (2,), (1, 1, 2), (-3, 2, -1)])

    def test_powers_and_roots(self):
        found = [
            power(2, (1, 2, -1), 3), power(2, (1, 2), -2), power(2, (1, 2), 0), root(2, (1, 2, 1, 2)),
            root(2, (1, 2, 2, -1)), root(2, (1,)),
        ]
        told = [(1, 2, 2, 2, -1), (-2, -1, -2, -1), (), ((1, 2), 2), ((1, 2, -1), 2), ((1,), 1)]
        self.assertEqual(found, told)

    def test_common_roots(self):
        found = [
            common_root(2, (1, 2), (2, 1)), is_common_root(2, (1, 1, 1), (-1, -1), ("root", (1,), 3, -2)),
            is_common_root(2, (), (1, 2), ("root", (-2, -1), 0, -1)), is_common_root(2, (), (), ("root", (2,), 0, 0)),
        ]
        self.assertEqual(found, [("unlike", (1, 2, 2, 1), (2, 1, 1, 2)), True, True, True])

    def test_lists_and_fractions(self):
        found = [
            list(words_of(1, 2)), list(words_of(2, 1)), word_number(2, 2), word_number(1, 0), word_number(5, 3),
            fraction(6, -4), fraction_text((4, 1)), compare((1, 3), (2, 7)),
        ]
        self.assertEqual(found, [[(-1, -1), (1, 1)], [(-2,), (-1,), (1,), (2,)], 12, 1, 810, (-3, 2), "4", 1])

    def test_what_is_refused(self):
        with self.assertRaises(Refused) as caught:
            root(2, ())
        self.assertEqual(caught.exception.reason, ("empty",))
        with self.assertRaises(InvalidWord):
            product(2, (1,), (1, -1))


class RingExamples(unittest.TestCase):
    def test_cores_and_rings(self):
        found = [
            core(2, (1, 2, -1)), core(2, (1, 2)), ring(2, (1, 2, 1, -2)), ring(2, (2, 1)), ring(2, (1, -2, -1)),
            is_ring(2, (1, 2)), is_ring(2, (2, 1)), is_ring(2, ()),
        ]
        self.assertEqual(found, [((1,), (2,)), ((), (1, 2)), (-2, 1, 2, 1), (1, 2), (-2,), True, False, True])

    def test_alike_words(self):
        found = [
            are_alike(2, (1, 2), (2, 1)), are_alike(2, (1,), (-1,)), is_between(2, (1, 2), (2, 1), (2,)),
            is_between(2, (1, 2), (2, 1), (-1,)), between(2, (1,), (2,)), turned(2, (1,), (2, 1)),
        ]
        self.assertEqual(found, [True, False, True, True, None, (2, 1, -2)])

    def test_lists_and_numbers(self):
        found = [
            list(rings_of(1, 3)), list(rings_of(2, 2)), ring_number(2, 2), ring_number(2, 3), ring_number(3, 1),
            ring_number(2, 0),
        ]
        twos = [(-2, -2), (-2, -1), (-2, 1), (-1, -1), (-1, 2), (1, 1), (1, 2), (2, 2)]
        self.assertEqual(found, [[(-1, -1, -1), (1, 1, 1)], twos, 8, 12, 6, 1])


class LotExamples(unittest.TestCase):
    def test_papers(self):
        found = [
            all_paper(2, ((1, 2), (2,)))[0], all_paper(2, ((1, 1), (2,)))[0], do_make_all(2, ((1, 2), (2,))), do_make_all(1, ()),
        ]
        self.assertEqual(found, ["all", "moves", True, False])
        judged = [
            is_all_paper(2, ((1, 2), (2,)), ("all", ((1, -2), (2,)))), is_all_paper(2, SQUARE, ("moves", ((1, 0), (0, 1)))),
            is_all_paper(2, SQUARE, ("moves", ((0, 1), (0, 1)))),
        ]
        self.assertEqual(judged, [True, True, False])

    def test_ways(self):
        found = [
            way_of(2, SQUARE, (1,)), is_way(2, SQUARE, (1, 1, -2), (1, -2)), is_way(2, SQUARE, (), (2, -2)),
            is_way(2, SQUARE, (1,), None),
        ]
        self.assertEqual(found, [None, True, True, False])

    def test_ranks_bases_and_equal_lots(self):
        found = [
            lot_rank(2, SQUARE), lot_rank(2, ((1, 1), (2,), (1, 1, 2))), lot_rank(2, ((), ())), lot_base(2, ((),)),
            len(lot_base(2, ((1, 1), (2,), (1, 2, -1)))),
        ]
        self.assertEqual(found, [2, 2, 0, (), 3])
        found = [
            are_one_lot(2, ((1, 1, 1), (1, 1)), ((-1,),)), are_one_lot(2, ((1, 1),), ((1,),)), are_one_lot(1, (), ((),)),
        ]
        self.assertEqual(found, [True, False, True])

    def test_what_is_refused(self):
        with self.assertRaises(InvalidWord):
            all_paper(2, ((1, -1),))
        with self.assertRaises(InvalidNumber) as caught:
            way_of(6, (), ())
        self.assertEqual(caught.exception.given, 6)


class TurnerExamples(unittest.TestCase):
    def test_turners(self):
        found = [
            GROW((1, -2)), (GROW * GROW).images, GROW.undone().images, GROW.power(-1) == GROW.undone(), THREE.length, str(GROW),
        ]
        told = [(1, 2, -1), ((1, 2, 1), (1, 2)), ((2,), (-2, 1)), True, 4, "turner of 2 letters, length 3"]
        self.assertEqual(found, told)

    def test_moves(self):
        found = [
            made_by(2, (("swap", 1, 2), ("ahead", 1, 2))) == GROW, Turner.of_move(3, ("behind", 3, -1)).images,
            Turner.idle(2) * PLAIN == PLAIN,
        ]
        self.assertEqual(found, [True, ((1,), (2,), (3, -1)), True])
        judged = [
            is_moves_of(PLAIN, (("behind", 2, 1),)), is_moves_of(PLAIN, ()), is_moves_of(Turner.idle(3), ()),
            is_moves_of(PLAIN, (("behind", 2, 2),)),
        ]
        self.assertEqual(judged, [True, False, True, False])

    def test_tables(self):
        found = [
            table_of(GROW), table_determinant(table_of(GROW)), table_of(THREE), table_product(table_of(GROW), table_of(GROW)),
        ]
        self.assertEqual(found, [((1, 1), (1, 0)), -1, ((0, 1, 0), (0, 0, 1), (1, 1, 0)), ((2, 1), (1, 1))])

    def test_what_is_refused(self):
        with self.assertRaises(InvalidTurner):
            Turner(((1, 1), (2,)))


class SumExamples(unittest.TestCase):
    def test_slopes(self):
        found = [
            slope(2, (1, 2, -1), 1).terms, slope(2, (1, 2, -1), 2).terms, slope(2, (), 1).terms, slope(2, (-2,), 2).terms,
        ]
        self.assertEqual(found, [{(): 1, (1, 2, -1): -1}, {(1,): 1}, {}, {(-2,): -1}])

    def test_sums(self):
        found = [
            (A * B - B * A).terms, len((A - ONE) * (A + ONE)), (A + A).total(), (A * B).led(GROW).terms, bool(A - A),
            list(A + ONE),
        ]
        self.assertEqual(found, [{(1, 2): 1, (2, 1): -1}, 2, 2, {(1, 2, 1): 1}, False, [((), 1), ((1,), 1)]])

    def test_slope_tables(self):
        table = [[entry.terms for entry in row] for row in slope_table(2, GROW.images)]
        self.assertEqual(table, [[{(): 1}, {(1,): 1}], [{(): 1}, {}]])
        undone = [[entry.terms for entry in row] for row in undone_slopes(2, GROW.images)]
        self.assertEqual((undone, undone_slopes(2, SQUARE)), ([[{}, {(): 1}], [{(-1,): 1}, {(-1,): -1}]], None))

    def test_what_is_refused(self):
        with self.assertRaises(InvalidSum):
            A + Sum.word(3, (1,))
