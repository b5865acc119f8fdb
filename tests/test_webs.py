"""Promises [0.12] to [0.14] and [8.1] to [8.4]: webs, roads, trees, rounds, namings and readings."""

import itertools
import unittest

import brute
import drawn
from noroadback.errors import InvalidNumber, InvalidOperation, InvalidRoad, InvalidWeb
from noroadback.webs import webs as module
from noroadback.webs.webs import (
    Web, base_naming, base_rounds, is_forest, is_naming, least_tree, pieces, reading, road_between, tight_round,
)
from wrong import HUGE, ROAD, STRANGE, TIES, WEB, WRONG_ROADS, WrongInputs, directed_but, integers_but

THETA = Web(((0, 1), (0, 1), (0, 1)))
ROSE = Web(((0, 0), (0, 0)))
# A line of 24 ties between 25 points.
LINE = tuple((place, place + 1) for place in range(24))
WRONG_PAIRS = [value for value in STRANGE if value != ((0, 0),)] + [
    0, 1, (), (0, 0), [(0, 0)], ((0, 0), [0, 0]), ((0, 0), None), ((0, 0, 0),), ((0,),), ((0, True),), ((False, 0),), ((0, "0"),),
    ((1, 1),), ((0, 0), (1, 1)), ((0, 1), (2, 3)), ((0, 2),), ((-1, 0),), ((0, 1), (1, 3)), ((0, HUGE),), ((0, (1,)),),
    ((0, 0),) * 25, LINE + ((0, 0),), ((0, 1), (0, 1), (2, 2)), ((0, None),), ((0, 10 ** 60),), ((1, 2), (2, 1)), {0: 0}, "00",
]


def drawn_webs(seed, many, most=8):
    """Webs of drawn ties, of ranks from 0 to 6."""
    rng = drawn.dice(seed)
    for number in range(many):
        pairs = drawn.ties(rng, number % 7, most)
        if pairs:
            yield rng, pairs, Web(pairs)


class Constants(unittest.TestCase):
    def test_constants(self):
        self.assertEqual([module.MAX_TIES, module.MAX_RANK], [24, 5])


class Making(WrongInputs):
    def is_web(self, pairs):
        """Whether pairs tell a web: their points are 0, 1, .. and hang together."""
        found = brute.points(pairs)
        ties = range(1, len(pairs) + 1)
        return found == list(range(len(found))) and all(brute.joins(pairs, ties, 0, point) for point in found)

    def test_all_small_pairs(self):
        pairs = list(itertools.product(range(3), repeat=2))
        for number in (1, 2, 3):
            for told in itertools.product(pairs, repeat=number):
                if self.is_web(told):
                    self.assertEqual(Web(told).ties, told)
                else:
                    self.assert_raises_with(InvalidWeb, None, None, Web, told)

    def test_drawn_pairs(self):
        for rng, pairs, web in drawn_webs(1, 60):
            self.assertEqual((web.ties, web.size, len(web)), (pairs, len(pairs), len(pairs)))
            self.assertEqual(web.points, len(brute.points(pairs)))
            self.assertEqual(web.rank, len(pairs) - len(brute.points(pairs)) + 1)
            other = tuple((rng.randrange(len(pairs)), rng.randrange(len(pairs))) for _ in pairs)
            if self.is_web(other):
                self.assertEqual(Web(other).ties, other)
            else:
                self.assert_raises_with(InvalidWeb, None, None, Web, other)

    def test_1_tie_and_24_ties_and_25(self):
        self.assertEqual([Web(((0, 0),)).rank, Web(((0, 1),)).rank, Web(((1, 0),)).points], [1, 0, 2])
        self.assertEqual([Web(LINE).points, Web(LINE).rank, Web(LINE).size], [25, 0, 24])
        self.assertEqual([Web(((0, 0),) * 24).points, Web(((0, 0),) * 24).rank], [1, 24])
        for pairs in [(), ((0, 0),) * 25, LINE + ((24, 25),), LINE + ((24, 0),)]:
            self.assert_raises_with(InvalidWeb, None, None, Web, pairs)

    def test_wrong_inputs(self):
        self.assert_refuses(Web, (THETA.ties,), [(InvalidWeb, None, WRONG_PAIRS)])

    def test_texts_and_comparing(self):
        self.assertEqual([str(Web(((0, 0),))), str(Web(LINE))], ["web of 1 ties, 1 points, rank 1", "web of 24 ties, 25 points, rank 0"])
        self.assertTrue(THETA == Web(THETA.ties) and not THETA != Web(THETA.ties))
        for value in STRANGE + [0, THETA.ties, Web(((0, 1), (0, 1), (1, 0))), Web(((0, 1), (0, 1)))]:
            if not (isinstance(value, Web) and value.ties == THETA.ties):
                self.assertIs(THETA == value, False)
                self.assertIs(THETA != value, True)

    def test_iterating(self):
        self.assertEqual([list(THETA), list(Web(LINE))], [list(THETA.ties), list(LINE)])
        self.assertEqual([pair for pair in ROSE], [(0, 0), (0, 0)])

    def test_webs_never_change(self):
        pairs = list(THETA)
        pairs.append((5, 5))
        self.assertEqual(THETA.ties, ((0, 1), (0, 1), (0, 1)))
        for name in ("ties", "points", "size", "rank"):
            with self.assertRaises(AttributeError):
                setattr(THETA, name, 1)


class Methods(WrongInputs):
    def test_begins_and_ends(self):
        for rng, pairs, web in drawn_webs(2, 40):
            for tie in brute.entries(len(pairs)):
                self.assertEqual((web.begin(tie), web.end(tie)), (brute.begin(pairs, tie), brute.end(pairs, tie)))
                self.assertEqual(web.begin(-tie), web.end(tie))
            for point in brute.points(pairs):
                self.assertEqual(web.beginnings(point), brute.beginnings(pairs, point))
            loose = tuple(point for point in brute.points(pairs) if len(brute.beginnings(pairs, point)) == 1)
            self.assertEqual(web.loose_points(), loose)

    def test_ties_from_a_point_to_itself(self):
        self.assertEqual([ROSE.beginnings(0), Web(((0, 0),)).loose_points(), Web(((0, 1), (1, 1))).beginnings(1)],
                         [(-2, -1, 1, 2), (), (-2, -1, 2)])
        self.assertEqual([Web(LINE).loose_points(), Web(((0, 1),)).loose_points()], [(0, 24), (0, 1)])

    def test_roads(self):
        for rng, pairs, web in drawn_webs(3, 60):
            road = drawn.road(rng, pairs, rng.choice(brute.points(pairs)), rng.randint(0, 15))
            self.assertIs(web.is_road(road), True)
            self.assertEqual(web.tight(road), brute.struck(road))
            self.assertEqual(web.gone_back(road), brute.back(road))
            self.assertEqual(web.tight(road + brute.back(road)), ())
            row = tuple(rng.choice(brute.entries(len(pairs))) for _ in range(3))
            hangs = all(brute.end(pairs, one) == brute.begin(pairs, other) for one, other in zip(row, row[1:]))
            self.assertIs(web.is_road(row), hangs)
            if not hangs:
                self.assert_raises_with(InvalidRoad, None, None, web.tight, row)
                self.assert_raises_with(InvalidRoad, None, None, web.gone_back, row)

    def test_opposites_put_in_are_struck_out_again(self):
        for rng, pairs, web in drawn_webs(4, 60):
            road = web.tight(drawn.road(rng, pairs, rng.choice(brute.points(pairs)), rng.randint(1, 10)))
            longer = road
            for _ in range(rng.randint(1, 6)):
                place = rng.randint(0, len(longer))
                if longer:
                    point = brute.begin(pairs, longer[0]) if place == 0 else brute.end(pairs, longer[place - 1])
                    there = drawn.road(rng, pairs, point, rng.randint(0, 4))
                    longer = longer[:place] + there + brute.back(there) + longer[place:]
            self.assertEqual(web.tight(longer), road)

    def test_roads_of_any_length(self):
        road = (1, -2) * 20000
        self.assertIs(THETA.is_road(road), True)
        self.assertEqual(THETA.tight(road), road)
        self.assertEqual(THETA.tight(road + (1, -1) + brute.back(road)), ())

    def test_wrong_inputs(self):
        self.assert_refuses(THETA.begin, (1,), [(InvalidNumber, "given", directed_but(3))])
        self.assert_refuses(THETA.end, (1,), [(InvalidNumber, "given", directed_but(3))])
        self.assert_refuses(THETA.beginnings, (1,), [(InvalidNumber, "given", integers_but(0, 1))])
        for call in (THETA.tight, THETA.gone_back):
            self.assert_refuses(call, ((1, -2),), [ROAD])
        for value in WRONG_ROADS + [(1, 2), (-1, -2), (1, 10 ** 5000), [], {}, "", (1, -2, 3, 3)]:
            self.assertIs(THETA.is_road(value), False)
        self.assertIs(THETA.is_road(()), True)


class Trees(WrongInputs):
    def test_least_trees_and_their_roads(self):
        for rng, pairs, web in drawn_webs(5, 50):
            self.assertEqual(least_tree(web), brute.tree(pairs))
            self.assertEqual(len(pairs) - len(least_tree(web)), web.rank)
            for _ in range(4):
                one, other = rng.choice(brute.points(pairs)), rng.choice(brute.points(pairs))
                self.assertEqual(road_between(web, one, other), brute.tree_road(pairs, one, other))
                self.assertEqual(road_between(web, one, one), ())

    def test_base_rounds(self):
        for rng, pairs, web in drawn_webs(6, 50):
            found = base_rounds(web)
            self.assertEqual(found, brute.base_rounds(pairs)[0])
            self.assertEqual(len(found), web.rank)
            outside = [tie for tie in range(1, web.size + 1) if tie not in least_tree(web)]
            for tie, road in zip(outside, found):
                self.assertEqual([entry for entry in road if abs(entry) in outside], [tie])
                self.assertTrue(web.is_road(road) and web.begin(road[0]) == 0 == web.end(road[-1]))

    def test_edges(self):
        self.assertEqual([least_tree(ROSE), base_rounds(ROSE), least_tree(Web(LINE)), base_rounds(Web(LINE))],
                         [(), ((1,), (2,)), tuple(range(1, 25)), ()])
        self.assertEqual(road_between(Web(LINE), 24, 0), tuple(range(-24, 0)))

    def test_wrong_inputs(self):
        self.assert_refuses(least_tree, (THETA,), [WEB])
        self.assert_refuses(base_rounds, (THETA,), [WEB])
        self.assert_refuses(road_between, (THETA, 0, 1), [WEB] + [(InvalidNumber, "given", integers_but(0, 1))] * 2)


class Pieces(WrongInputs):
    def told_pieces(self, pairs, chosen):
        """The pieces, by trying which ties lead from one tie to another one."""
        found = []
        for tie in chosen:
            piece = tuple(other for other in chosen if brute.joins(pairs, chosen, pairs[tie - 1][0], pairs[other - 1][0]))
            if piece not in found:
                found.append(piece)
        return tuple(found)

    def test_drawn_ties(self):
        for rng, pairs, web in drawn_webs(7, 80):
            chosen = tuple(tie for tie in range(1, web.size + 1) if rng.random() < 0.5)
            found = pieces(web, chosen)
            self.assertEqual(found, self.told_pieces(pairs, chosen))
            self.assertEqual(sorted(sum(found, ())), list(chosen))
            points = sum(len({point for tie in piece for point in pairs[tie - 1]}) - len(piece) for piece in found)
            self.assertIs(is_forest(web, chosen), points == len(found))

    def test_edges(self):
        self.assertEqual([pieces(THETA, ()), is_forest(THETA, ()), pieces(ROSE, (1, 2)), is_forest(ROSE, (1,))], [(), True, ((1, 2),), False])
        self.assertEqual(pieces(Web(LINE), (1, 3, 4, 24)), ((1,), (3, 4), (24,)))
        self.assertIs(is_forest(Web(LINE), tuple(range(1, 25))), True)
        # The pieces come by their least ties, whatever their points are.
        self.assertEqual(pieces(Web(((2, 3), (0, 1), (1, 2), (0, 0))), (1, 2)), ((1,), (2,)))

    def test_wrong_inputs(self):
        for call in (pieces, is_forest):
            self.assert_refuses(call, (THETA, (1, 2)), [WEB, TIES])
            for value in [(4,), (2, 1), (1, 1), (0,), (-1,), [1]]:
                self.assert_raises_with(InvalidOperation, None, None, call, THETA, value)


class Rounds(WrongInputs):
    def drawn_round(self, rng, pairs):
        """A drawn round."""
        start = rng.choice(brute.points(pairs))
        road = drawn.road(rng, pairs, start, rng.randint(0, 12))
        home = brute.tree_road(pairs, brute.end(pairs, road[-1]), start) if road else ()
        return road + home

    def test_drawn_rounds(self):
        for rng, pairs, web in drawn_webs(8, 80):
            road = self.drawn_round(rng, pairs)
            self.assertEqual(tight_round(web, road), brute.ring(road))
            for _ in range(3):
                place = rng.randint(0, len(road))
                self.assertEqual(tight_round(web, road[place:] + road[:place]), brute.ring(road))

    def test_readings_tell_rounds(self):
        for rng, pairs, web in drawn_webs(9, 120, 5):
            if 1 <= web.rank <= 5:
                words = base_naming(web)
                one, other = tight_round(web, self.drawn_round(rng, pairs)), tight_round(web, self.drawn_round(rng, pairs))
                alike = brute.ring(reading(web, words, one)) == brute.ring(reading(web, words, other))
                self.assertIs(alike, one == other)

    def test_what_is_no_round(self):
        self.assertEqual([tight_round(THETA, ()), tight_round(ROSE, (1, 2, -2, 1, -1, -1))], [(), ()])
        for road in [(1,), (1, -2, 3), (-3,)]:
            self.assert_raises_with(InvalidOperation, None, None, tight_round, THETA, road)

    def test_wrong_inputs(self):
        self.assert_refuses(tight_round, (THETA, (1, -2)), [WEB, ROAD])
        self.assert_raises_with(InvalidRoad, None, None, tight_round, THETA, (1, 2))


class Namings(WrongInputs):
    def drawn_naming(self, rng, pairs, letters):
        """A naming made from a drawn turner, and shifted at each point."""
        images = drawn.images(rng, letters, 8, 6)
        shifts = [drawn.word(rng, letters, 3) for _ in brute.points(pairs)]
        return tuple(brute.times(brute.back(shifts[begin]), brute.told(images, word), shifts[end])
                     for (begin, end), word in zip(pairs, brute.base_rounds(pairs)[1]))

    def test_namings_from_drawn_turners(self):
        for rng, pairs, web in drawn_webs(10, 80, 5):
            if not 1 <= web.rank <= 5:
                continue
            words = self.drawn_naming(rng, pairs, web.rank)
            self.assertIs(is_naming(web, words), True)
            place = rng.randrange(len(words))
            other = words[:place] + (brute.times(words[place], drawn.word(rng, web.rank, 2)),) + words[place + 1:]
            rows = [brute.told(other, road) for road in base_rounds(web)]
            loops = brute.web(rows)
            told = all(brute.is_in_lot(loops, (letter,)) for letter in range(1, web.rank + 1))
            self.assertIs(is_naming(web, other), told)

    def test_base_namings(self):
        for rng, pairs, web in drawn_webs(11, 60):
            if 1 <= web.rank <= 5:
                self.assertEqual(base_naming(web), brute.base_rounds(pairs)[1])
                self.assertIs(is_naming(web, base_naming(web)), True)
                letters = [reading(web, base_naming(web), road) for road in base_rounds(web)]
                self.assertEqual(letters, list(brute.idle(web.rank)))
            else:
                self.assert_raises_with(InvalidOperation, None, None, base_naming, web)
                self.assertIs(is_naming(web, ((),) * web.size), False)

    def test_ranks_0_1_5_and_6(self):
        line, loops = Web(((0, 1),)), Web(((0, 0),) * 6)
        for web in (line, loops):
            self.assert_raises_with(InvalidOperation, None, None, base_naming, web)
            self.assertIs(is_naming(web, tuple((tie,) for tie in range(1, web.size + 1))), False)
            self.assert_raises_with(InvalidOperation, None, None, reading, web, ((1,),) * web.size, (1,))
        self.assertIs(is_naming(line, ((),)), False)
        self.assertEqual(base_naming(Web(((0, 0),) * 5)), brute.idle(5))
        self.assertEqual([is_naming(Web(((0, 0),)), ((-1,),)), is_naming(Web(((0, 0),)), ((1, 1),))], [True, False])

    def test_words_of_any_length(self):
        words = ((1,), (1,) * 3000 + (2,) + (1,) * 3000)
        self.assertIs(is_naming(ROSE, words), True)
        self.assertIs(is_naming(ROSE, (words[0], words[1] + (2,))), False)
        self.assertEqual(len(reading(ROSE, words, (2, 2))), 12002)

    def test_values_that_are_no_namings(self):
        for value in [((1,), (2,)), ((1,), (2,), (1,), ()), [(1,), (2,), ()], ((1,), (2,), None), ((1,), (2,), [1]), ((1,), (2,), (1, -1)),
                      ((1,), (2,), (True,)), ((1,), (2,), (3,)), ((1,), (2,), (0,)), ((1,), (2,), (HUGE,)), (), (1, 2, 3)]:
            self.assertIs(is_naming(THETA, value), False)
            self.assert_raises_with(InvalidOperation, None, None, reading, THETA, value, (1,))
        self.assert_judges_strange(is_naming, (THETA,), [])

    def test_readings(self):
        for rng, pairs, web in drawn_webs(12, 80, 5):
            if 1 <= web.rank <= 5:
                words = self.drawn_naming(rng, pairs, web.rank)
                road = drawn.road(rng, pairs, rng.choice(brute.points(pairs)), rng.randint(0, 12))
                self.assertEqual(reading(web, words, road), brute.reading(words, road))
                self.assertEqual(reading(web, words, brute.struck(road)), brute.reading(words, road))

    def test_wrong_inputs(self):
        words = ((1,), (2,), ())
        self.assert_refuses(is_naming, (THETA, words), [WEB, None])
        self.assert_refuses(base_naming, (THETA,), [WEB])
        wrongs = [value for value in STRANGE] + [(), ((1,), (1,), ()), words[:2]]
        self.assert_refuses(reading, (THETA, words, (1,)), [WEB, (InvalidOperation, None, wrongs), ROAD])
        self.assert_raises_with(InvalidRoad, None, None, reading, THETA, words, (1, 2))
