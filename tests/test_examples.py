"""Each example of the document for errors, words, fractions and rings."""

import unittest

from noroadback.base.fractions import compare, fraction, fraction_text
from noroadback.base.rings import (
    are_alike, between, core, is_between, is_ring, ring, ring_number, rings_of, turned,
)
from noroadback.base.words import (
    bare, common_root, contrary, is_common_root, is_word, power, product, root, word_number, words_of,
)
from noroadback.errors import InvalidWord, Refused


class WordExamples(unittest.TestCase):
    def test_words_and_products(self):
        found = [
            is_word(2, (1, 2, -1)), is_word(2, (1, -1)), is_word(2, (3,)), is_word(1, ()),
            bare(2, (1, 2, -2, -1, 2, 1, -1)), product(2, (1, 2), (-2, 1), (2,)), contrary(3, (1, -2, 3)),
        ]
        self.assertEqual(found, [True, False, False, True, (2,), (1, 1, 2), (-3, 2, -1)])

    def test_powers_and_roots(self):
        found = [
            power(2, (1, 2, -1), 3), power(2, (1, 2), -2), power(2, (1, 2), 0), root(2, (1, 2, 1, 2)),
            root(2, (1, 2, 2, -1)), root(2, (1,)),
        ]
        told = [(1, 2, 2, 2, -1), (-2, -1, -2, -1), (), ((1, 2), 2), ((1, 2, -1), 2), ((1,), 1)]
        self.assertEqual(found, told)

    def test_common_roots(self):
        found = [
            common_root(2, (1, 2), (2, 1)), is_common_root(2, (1, 1, 1), (-1, -1), ("root", (1,), 3, -2)),
            is_common_root(2, (), (1, 2), ("root", (-2, -1), 0, -1)), is_common_root(2, (), (), ("root", (2,), 0, 0)),
        ]
        self.assertEqual(found, [("unlike", (1, 2, 2, 1), (2, 1, 1, 2)), True, True, True])

    def test_lists_and_fractions(self):
        found = [
            list(words_of(1, 2)), list(words_of(2, 1)), word_number(2, 2), word_number(1, 0), word_number(5, 3),
            fraction(6, -4), fraction_text((4, 1)), compare((1, 3), (2, 7)),
        ]
        self.assertEqual(found, [[(-1, -1), (1, 1)], [(-2,), (-1,), (1,), (2,)], 12, 1, 810, (-3, 2), "4", 1])

    def test_what_is_refused(self):
        with self.assertRaises(Refused) as caught:
            root(2, ())
        self.assertEqual(caught.exception.reason, ("empty",))
        with self.assertRaises(InvalidWord):
            product(2, (1,), (1, -1))


class RingExamples(unittest.TestCase):
    def test_cores_and_rings(self):
        found = [
            core(2, (1, 2, -1)), core(2, (1, 2)), ring(2, (1, 2, 1, -2)), ring(2, (2, 1)), ring(2, (1, -2, -1)),
            is_ring(2, (1, 2)), is_ring(2, (2, 1)), is_ring(2, ()),
        ]
        self.assertEqual(found, [((1,), (2,)), ((), (1, 2)), (-2, 1, 2, 1), (1, 2), (-2,), True, False, True])

    def test_alike_words(self):
        found = [
            are_alike(2, (1, 2), (2, 1)), are_alike(2, (1,), (-1,)), is_between(2, (1, 2), (2, 1), (2,)),
            is_between(2, (1, 2), (2, 1), (-1,)), between(2, (1,), (2,)), turned(2, (1,), (2, 1)),
        ]
        self.assertEqual(found, [True, False, True, True, None, (2, 1, -2)])

    def test_lists_and_numbers(self):
        found = [
            list(rings_of(1, 3)), list(rings_of(2, 2)), ring_number(2, 2), ring_number(2, 3), ring_number(3, 1),
            ring_number(2, 0),
        ]
        twos = [(-2, -2), (-2, -1), (-2, 1), (-1, -1), (-1, 2), (1, 1), (1, 2), (2, 2)]
        self.assertEqual(found, [[(-1, -1, -1), (1, 1, 1)], twos, 8, 12, 6, 1])
