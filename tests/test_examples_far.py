"""Each example of the document for what is lost, fates, rows of ties, and what stays."""

import unittest

from noroadback.errors import InvalidNumber, InvalidOperation, InvalidRoad, TooMany
from noroadback.search.fates import fate, is_fate, lengths, ring_led
from noroadback.search.lost import common_of, is_most_lost, lost_bound, most_lost
from noroadback.search.rows import next_ties, row_numbers, rows_in, tie_at
from noroadback.search.staying import staying_base, staying_rings, staying_roads, staying_words
from noroadback.turns.turners import Turner
from noroadback.webs.stands import Stand, rose_stand

GROW, THREE, PLAIN = Turner(((1, 2), (1,))), Turner(((2,), (3,), (1, 2))), Turner(((1,), (2, 1)))
ROSE = rose_stand(GROW)
HALF = Stand(((0, 1), (0, 0), (1, 0)), ((1,), (2,), ()), ((1, 3), (1, 3), (2,)))
BOTH = rose_stand(Turner(((2, 1, 2), (2,))))


class FarExamples(unittest.TestCase):
    def test_lost(self):
        found = [lost_bound(ROSE), most_lost(ROSE)[0], is_most_lost(ROSE, (1, (1,), (2, 1))), is_most_lost(ROSE, (1, (2,), (1, 1))),
                 is_most_lost(ROSE, (0, (1,), (-1,)))]
        self.assertEqual(found, [1, 1, True, True, False])
        found = [common_of(ROSE, (1,), (2, 1)), common_of(ROSE, (2, 1), (2, 2)), common_of(ROSE, (-1,), (-2,)), lost_bound(BOTH),
                 most_lost(BOTH)[0], common_of(HALF, (1,), (2,))]
        self.assertEqual(found, [1, 2, 0, 2, 1, 2])
        with self.assertRaises(InvalidRoad):
            common_of(ROSE, (1, -1), (2,))

    def test_fates(self):
        found = [fate(ROSE, (1, 2, -1, -2)), ring_led(ROSE, (1, 2, -1, -2), 1), ring_led(ROSE, (1,), 4), ring_led(ROSE, (2, 1), 0)]
        self.assertEqual(found, [("round", 2), (-2, -1, 2, 1), (1, 1, 2, 1, 1, 2, 1, 2), (1, 2)])
        found = [fate(ROSE, (1,))[0], is_fate(ROSE, (1,), ("grows", 0, 0, (3, 2), (3, 2))),
                 is_fate(ROSE, (1,), ("grows", 0, 0, (3, 2), (5, 3))), is_fate(ROSE, (1,), ("round", 2))]
        self.assertEqual(found, ["grows", True, False, False])
        found = [lengths(ROSE, (1,), 6), lengths(ROSE, (2, 1), 3), fate(rose_stand(Turner(((-2,), (1,)))), (1, 2))]
        self.assertEqual(found, [(1, 2, 3, 5, 8, 13, 21), (2, 3, 5, 8), ("round", 4)])
        with self.assertRaises(InvalidOperation):
            lengths(ROSE, (-1, 2), 3)

    def test_rows(self):
        found = [rows_in(ROSE, 1, 1), rows_in(ROSE, 1, 2), rows_in(ROSE, -1, 2), row_numbers(ROSE, 1, 4)]
        self.assertEqual(found, [((1,), (2,)), ((1, 1), (1, 2), (2, 1)), ((-2, -1), (-1, -2), (-1, -1)), (2, 3, 4, 5)])
        found = [next_ties(ROSE, 1, (1, 2)), next_ties(ROSE, 2, (2, 1)), next_ties(ROSE, 1, (2, 2)), rows_in(rose_stand(PLAIN), 1, 2)]
        self.assertEqual(found, [(1,), (1, 2), (), ()])
        found = [[tie_at(ROSE, 1, 4, place) for place in range(8)], tie_at(ROSE, -2, 3, 0), tie_at(ROSE, 2, 0, 0)]
        self.assertEqual(found, [[1, 2, 1, 1, 2, 1, 2, 1], -1, 2])
        with self.assertRaises(InvalidOperation):
            tie_at(ROSE, 2, 1, 1)

    def test_staying(self):
        self.assertEqual(staying_words(PLAIN, 3), ((-1,), (1,), (-1, -1), (1, 1), (-1, -1, -1), (1, 1, 1), (2, -1, -2), (2, 1, -2)))
        self.assertEqual([len(staying_base(PLAIN, 2)), len(staying_base(PLAIN, 3)), staying_base(GROW, 4), staying_words(GROW, 4)], [1, 2, (), ()])
        found = [staying_rings(GROW, 4), staying_rings(GROW * GROW, 4), staying_rings(PLAIN, 2)]
        self.assertEqual(found, [(), ((-2, -1, 2, 1), (-2, 1, 2, -1)), ((-1,), (1,), (-1, -1), (1, 1))])
        found = [staying_roads(rose_stand(PLAIN), 3), staying_roads(rose_stand(GROW), 3)]
        self.assertEqual(found, [((-1,), (1,), (2, -1, -2), (2, 1, -2)), ()])
        with self.assertRaises(InvalidNumber) as caught:
            staying_words(GROW, 8)
        self.assertEqual(caught.exception.given, 8)
        with self.assertRaises(TooMany) as caught:
            staying_rings(Turner.idle(5), 6)
        self.assertEqual(caught.exception.most, 100000)
