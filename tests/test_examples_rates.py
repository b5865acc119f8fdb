"""Each example of the document for changes of stands, tables and rates, gates and the search."""

import unittest

from noroadback.errors import InvalidNumber, InvalidOperation, InvalidRoad, InvalidStand, Refused
from noroadback.rates.gates import back_paper, closed_turns, first_of, gates, is_back_paper, is_open, turns_taken
from noroadback.rates.tables import (
    beat, compare_rates, counts, hangs_together, is_rate, is_rate_bounds, is_rate_paper, own_poly, pieces_of, rate_paper, row_led,
    table_power, weights_led,
)
from noroadback.search.search import grown_set, is_search_paper, kept_parts, search_paper
from noroadback.turns.turners import Turner
from noroadback.webs.changes import folded, halved, joined, pulled, shrunk
from noroadback.webs.stands import Stand, is_stand_of, rose_stand

GROW, THREE, PLAIN = Turner(((1, 2), (1,))), Turner(((2,), (3,), (1, 2))), Turner(((1,), (2, 1)))
ROSE = rose_stand(GROW)
HALF = Stand(((0, 1), (0, 0), (1, 0)), ((1,), (2,), ()), ((1, 3), (1, 3), (2,)))
LOOPS = ((0, 0), (0, 0))
BAR = Stand(((0, 0), (1, 1), (0, 1)), ((1,), (2,), ()), ((1,), (2,), (3,)))
GOLD, TURNED_TABLE, STEPS = counts(ROSE), ((0, 1), (1, 0)), ((1, 1, 0), (0, 0, 1), (0, 0, 2))
LATE = rose_stand(Turner(((1, 2), (-1,))))
SWAP, SIX = Turner(((2,), (1,))), Turner(((1, 2), (-1,)))
TURNED = Stand(((0, 0), (0, 0)), ((1, 2), (2,)), ((1,), (-2, 1)))
THIRDS = Stand(((0, 1), (0, 1), (0, 1)), ((), (1,), (-2,)), ((-2,), (-3,), (-1,)))


class ChangeExamples(unittest.TestCase):
    def test_changes(self):
        found = [halved(ROSE, 1, 1) == HALF, folded(HALF, 1, 2) == Stand(LOOPS, ((2,), (-2, 1)), ((1, 2), (1,))), joined(HALF, 1, 3) == ROSE]
        self.assertEqual(found, [True, True, True])
        found = [joined(HALF, 1, 1) == Stand(LOOPS, ((2,), (1,)), ((2,), (2, 1))), is_stand_of(GROW, folded(HALF, 1, 2)),
                 shrunk(HALF, ()) == HALF]
        self.assertEqual(found, [True, True, True])
        self.assertEqual([shrunk(BAR, (3,)) == rose_stand(Turner.idle(2)), shrunk(BAR, (3,)).images], [True, ((1,), (2,))])
        self.assertIs(pulled(Stand(((0, 0), (0, 1)), ((1,), ()), ((1,), (1, 2))), 1) == rose_stand(Turner.idle(1)), True)

    def test_what_is_refused(self):
        with self.assertRaises(InvalidOperation):
            folded(ROSE, 1, 2)
        with self.assertRaises(InvalidNumber) as caught:
            halved(ROSE, 2, 1)
        self.assertEqual(caught.exception.given, 1)


class TableExamples(unittest.TestCase):
    def test_tables(self):
        found = [GOLD, own_poly(GOLD), row_led(STEPS, (1, 2, 3)), weights_led(STEPS, (1, 2, 3)), table_power(GOLD, 5), table_power(STEPS, 0)]
        told = [((1, 1), (1, 0)), (-1, -1, 1), (1, 1, 8), (3, 3, 6), ((8, 5), (5, 3)), ((1, 0, 0), (0, 1, 0), (0, 0, 1))]
        self.assertEqual(found, told)
        found = [hangs_together(GOLD), hangs_together(STEPS), pieces_of(STEPS), beat(GOLD), beat(TURNED_TABLE), own_poly(STEPS)]
        self.assertEqual(found, [True, False, ((0,), (1,), (2,)), 1, 2, (0, 2, -3, 1)])

    def test_papers(self):
        found = [is_rate_paper(GOLD, (2, 1), ("below", (1, 1))), is_rate_paper(GOLD, (3, 2), ("above", (3, 2))),
                 is_rate_paper(GOLD, (3, 2), ("below", (1, 1))), rate_paper(GOLD, (5, 3))[0]]
        self.assertEqual(found, [True, True, False, "below"])
        found = [is_rate_paper(TURNED_TABLE, (1, 1), ("below", (1, 1))), is_rate_paper(TURNED_TABLE, (1, 1), ("above", (2, 2))),
                 is_rate_paper(TURNED_TABLE, (1, 1), ("above", (1, 2)))]
        self.assertEqual(found, [True, True, False])

    def test_rates(self):
        found = [compare_rates(GOLD, ((2,),)), compare_rates(STEPS, ((2,),)), compare_rates(((0, 1), (0, 0)), ((0,),)),
                 is_rate(STEPS, (2, 1)), is_rate(GOLD, (8, 5)), is_rate(((0,),), (0, 1))]
        self.assertEqual(found, [-1, 0, 0, True, False, True])
        found = [is_rate_bounds(GOLD, 1, ((8, 5), (17, 10))), is_rate_bounds(GOLD, 2, ((8, 5), (17, 10))),
                 is_rate_bounds(STEPS, 10, ((2, 1), (2, 1)))]
        self.assertEqual(found, [True, False, True])
        with self.assertRaises(Refused) as caught:
            beat(STEPS)
        self.assertEqual(caught.exception.reason, ("apart",))


class GateExamples(unittest.TestCase):
    def test_rose(self):
        found = [[first_of(ROSE, tie) for tie in (1, 2, -1, -2)], gates(ROSE), closed_turns(ROSE), turns_taken(ROSE)]
        self.assertEqual(found, [[1, 1, -2, -1], (((-2,), (-1,), (1, 2)),), ((1, 2),), ((-2, 1), (-1, 1), (-1, 2))])
        found = [is_open(ROSE, (1, 2)), is_open(ROSE, (-1, 2)), is_open(ROSE, (1, -1)), is_open(ROSE, ()),
                 back_paper(ROSE) == ("never", gates(ROSE))]
        self.assertEqual(found, [True, False, False, True, True])

    def test_a_stand_that_turns_back_late(self):
        found = [[first_of(LATE, tie) for tie in (1, 2, -1, -2)], gates(LATE), back_paper(LATE), turns_taken(LATE)]
        self.assertEqual(found, [[1, -1, -2, 1], (((-2, -1, 1, 2),),), ("back", 4, 1), ((-2, -1), (-2, 1), (-1, 2))])
        found = [is_back_paper(LATE, ("back", 5, 1)), is_back_paper(LATE, ("back", 3, 1)), is_back_paper(LATE, ("never", gates(LATE))),
                 is_back_paper(ROSE, ("never", gates(ROSE)))]
        self.assertEqual(found, [True, False, False, True])
        with self.assertRaises(InvalidRoad):
            is_open(ROSE, (3,))


class SearchExamples(unittest.TestCase):
    def test_papers(self):
        found = [search_paper(GROW)[0], search_paper(THREE)[0], search_paper(PLAIN)[0], search_paper(SIX)[0]]
        self.assertEqual(found, ["never", "never", "kept", "never"])
        found = [is_search_paper(SWAP, ("never", rose_stand(SWAP))), is_search_paper(SWAP, ("kept", TURNED, (1,))),
                 is_search_paper(SIX, ("never", THIRDS)), is_search_paper(SIX, ("never", rose_stand(SIX)))]
        self.assertEqual(found, [True, True, True, False])

    def test_kept_parts(self):
        rose = rose_stand(PLAIN)
        found = [grown_set(rose, (1,)), grown_set(rose, (2,)), kept_parts(rose), kept_parts(ROSE), kept_parts(TURNED)]
        self.assertEqual(found, [(1,), (1, 2), ((1,),), (), ((1,),)])
        found = [is_search_paper(PLAIN, ("kept", rose, (1,))), is_search_paper(PLAIN, ("kept", rose, (1, 2))),
                 is_search_paper(PLAIN, ("never", rose))]
        self.assertEqual(found, [True, False, False])
        with self.assertRaises(InvalidStand):
            kept_parts(GROW)
