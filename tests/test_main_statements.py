"""Promises [0.19] to [0.25] over the whole program: what one part tells holds by the others."""

import unittest

import brute
import drawn
import never
from noroadback.base.lots import all_paper, do_make_all, is_all_paper
from noroadback.desk.desk import Desk
from noroadback.rates.gates import back_paper
from noroadback.rates.tables import (
    compare_rates, counts, hangs_together, is_rate, is_rate_paper, rate_bounds, rate_paper, table_power, weights_led,
)
from noroadback.search.fates import fate, lengths, ring_led
from noroadback.search.lost import lost_bound, most_lost
from noroadback.search.search import is_search_paper, search_paper
from noroadback.search.stairs import is_stair_paper, stair_paper
from noroadback.search.staying import staying_rings
from noroadback.text.texts import read, write_stand, write_turner
from noroadback.turns.alike import alike_word, inner_word, table_order, turned_by, turner_order
from noroadback.turns.turners import Turner, table_determinant, table_of
from noroadback.turns.two import quotient_round, two_kind
from noroadback.webs.stands import is_stand_of, road_of, rose_stand, turner_of, word_of
from test_search import drawn_turners

GROW, PLAIN = Turner(((1, 2), (1,))), Turner(((1,), (2, 1)))


class NeverBackOrKept(unittest.TestCase):
    def test_each_turner_has_a_stand_of_one_sort(self):
        for turner in drawn_turners(51, 40, 1, 4, 24):
            paper = search_paper(turner)
            self.assertTrue(is_search_paper(turner, paper) and is_stand_of(turner, paper[1]))
            self.assertIsNotNone(alike_word(turner_of(paper[1]), turner))
            if paper[0] == "never":
                self.assertEqual([back_paper(paper[1])[0], hangs_together(counts(paper[1]))], ["never", True])
                self.assertLessEqual(compare_rates(counts(paper[1]), counts(rose_stand(turner))), 0)

    def test_alike_turners_have_stands_with_one_rate(self):
        for turner in drawn_turners(52, 24, 2, 3, 14):
            papers = [search_paper(turner), search_paper(turned_by(turner.letters, (1, -2)) * turner)]
            if [paper[0] for paper in papers] == ["never", "never"]:
                self.assertEqual(compare_rates(counts(papers[0][1]), counts(papers[1][1])), 0)


class Fates(unittest.TestCase):
    def told(self, seed, many):
        """Turners with told stands that can be asked for fates."""
        for turner in drawn_turners(seed, many, 2, 3, 14):
            paper = search_paper(turner)
            if paper[0] == "never" and paper[1].size <= 8 and lost_bound(paper[1]) <= 24:
                yield turner, paper[1]

    def test_each_round_comes_round_or_grows(self):
        rng, found = drawn.dice(53), set()
        for turner, stand in self.told(53, 60):
            road = never.tight_round(rng, stand, 8)
            paper = fate(stand, road)
            word, many = word_of(stand, road), paper[1] if paper[0] == "round" else 0
            found.add(paper[0])
            # The ring of the reading comes round just as the ring of the road does.
            ring, rings = brute.ring(word), []
            for _ in range(6):
                if len(rings) == 0 or len(rings[-1]) < 400:
                    word = brute.core_of(brute.told(turner.images, word))
                    rings.append(brute.ring(word))
            self.assertEqual(ring in rings, 0 < many <= len(rings))
            if 0 < many <= len(rings):
                self.assertEqual(rings.index(ring), many - 1)
        self.assertEqual(found, {"round", "grows"})

    def test_rings_of_words_that_stay_have_rounds_that_come_round_at_once(self):
        for turner, stand in self.told(54, 60):
            for ring in staying_rings(turner, 3):
                road = road_of(stand, ring)
                if 1 <= len(road) <= 24:
                    self.assertEqual(fate(stand, road), ("round", 1))

    def test_rates_are_those_of_lengths(self):
        for turner, stand in self.told(55, 60):
            (low, low_part), (high, high_part) = rate_bounds(counts(stand), 8)
            row = lengths(stand, (1,), 200)
            self.assertEqual(row[200], sum(table_power(counts(stand), 200)[0]))
            # The length is above 1 and within the least and greatest weights times the power of the rate.
            if low > low_part:
                self.assertTrue(row[200] * 10 ** 9 > (low * 99) ** 200 // (low_part * 100) ** 200)
                self.assertTrue(row[200] < 10 ** 9 * (high * 101) ** 200 // (high_part * 100) ** 200)
            else:
                self.assertEqual(row, (1,) * 201)
            self.assertLessEqual(most_lost(stand)[0], lost_bound(stand))


class TwoLetters(unittest.TestCase):
    def test_four_integers_and_stands_tell_the_same(self):
        found = set()
        for turner in drawn.turners(56, 150, 8, 2):
            table, sign = table_of(turner), table_determinant(table_of(turner))
            trace = table[0][0] + table[1][1]
            kind, paper = two_kind(turner), search_paper(turner)
            found.add(kind[0])
            self.assertTrue(is_search_paper(turner, paper))
            if kind[0] == "grows":
                # The rate is the size of the greater root of z z - trace z + sign.
                self.assertEqual(paper[0], "never")
                low, high = rate_bounds(counts(paper[1]), 10)
                least, most = [(top * top + sign * bottom * bottom, abs(trace) * top * bottom) for top, bottom in (low, high)]
                self.assertTrue(least[0] <= least[1] and most[0] >= most[1])
                self.assertTrue(set(quotient_round(turner)) and not is_rate(counts(paper[1]), (1, 1)))
            if kind[0] == "kept":
                self.assertEqual(paper[0], "kept")
                ring = brute.ring(kind[1])
                self.assertEqual(brute.ring(turner(kind[1])), ring if trace == 2 else brute.ring(brute.back(ring)))
            if kind[0] == "round":
                self.assertEqual(turner_order(turner)[0], kind[1])
                if paper[0] == "never":
                    self.assertIs(is_rate(counts(paper[1]), (1, 1)), True)
        self.assertEqual(found, {"grows", "kept", "round"})

    def test_the_ring_of_the_commutator(self):
        word = (1, 2, -1, -2)
        for turner in drawn.turners(57, 40, 8, 2):
            paper = search_paper(turner)
            if paper[0] == "never":
                road = road_of(paper[1], word)
                sign = table_determinant(table_of(turner))
                goal = ring_led(paper[1], road, 1) if len(road) <= 24 else None
                if goal is not None:
                    self.assertEqual(goal, brute.ring(road if sign == 1 else brute.back(road)))


class AllOrAPlace(unittest.TestCase):
    def test_words_make_all_or_leave_a_point(self):
        rng, found = drawn.dice(58), set()
        for number in range(120):
            letters = 1 + number % 4
            words = drawn.words(rng, letters, 0, 6, 5) if number % 3 else drawn.images(rng, letters, 6, 9)
            name, told = all_paper(letters, words)
            found.add(name)
            self.assertIs(is_all_paper(letters, words, (name, told)), True)
            self.assertEqual(do_make_all(letters, words), name == "all")
            if name == "all":
                self.assertEqual([brute.told(words, way) for way in told], list(brute.idle(letters)))
                # Under no moves of few points all words leave the point 0, but for those that do not hang together.
                moves = tuple(tuple(rng.sample(range(3), 3)) for _ in range(letters))
                self.assertIs(is_all_paper(letters, words, ("moves", moves)), False)
            else:
                self.assertTrue(all(self.led(told, word) == 0 for word in words))
                self.assertTrue(any(row[0] != 0 for row in told))
        self.assertEqual(found, {"all", "moves"})

    def led(self, moves, word):
        """Where a word leads the point 0."""
        point = 0
        for entry in word:
            point = moves[entry - 1][point] if entry > 0 else moves[-entry - 1].index(point)
        return point


class ComingRound(unittest.TestCase):
    def test_the_least_power_with_the_unit_table_tells(self):
        rng, found = drawn.dice(59), set()
        for number in range(150):
            letters = 2 + number % 3
            names = rng.sample(range(1, letters + 1), letters)
            turner = Turner(tuple((rng.choice([1, -1]) * name,) for name in names))
            by = Turner(drawn.images(rng, letters, 2, 5))
            turner = by * turner * by.undone()
            if number % 3 == 0:
                turner = Turner(drawn.images(rng, letters, 2, 5))
            many, order = table_order(table_of(turner)), turner_order(turner)
            found.add((many is None, order is None))
            for power in range(1, 13 if order else 5):
                inner = inner_word(turner.power(power)) is not None
                self.assertEqual(inner, order is not None and power % order[0] == 0)
            self.assertTrue(order is None or order[0] == many)
        self.assertTrue(found >= {(True, True), (False, False)})


class Rates(unittest.TestCase):
    def test_rows_tell_which_fractions_are_above_the_rate(self):
        rng, done = drawn.dice(60), 0
        for _ in range(200):
            size = rng.randint(1, 4)
            table = tuple(tuple(rng.choice([0, 0, 1, 1, 2]) for _ in range(size)) for _ in range(size))
            if not hangs_together(table):
                continue
            done += 1
            for fraction in [(1, 1), (3, 2), (2, 1), (3, 1), (17, 10)]:
                sort, row = rate_paper(table, fraction)
                pairs = [(fraction[1] * led, fraction[0] * entry) for led, entry in zip(weights_led(table, row), row)]
                self.assertTrue(min(row) > 0 and all(one <= other if sort == "below" else one >= other for one, other in pairs))
                both = [is_rate_paper(table, fraction, (word, row)) for word in ("below", "above")]
                self.assertEqual(all(both), is_rate(table, fraction))
        self.assertGreater(done, 50)


class Together(unittest.TestCase):
    def test_turners_by_names_with_their_stands_stairs_and_texts(self):
        desk = Desk(3)
        for number, turner in enumerate(drawn.turners(61, 12, 6, 3)):
            name = "abcdefghijklmnop"[number]
            desk.do(("put", name, turner), ("put", "by", turned_by(3, (1, -2))), ("behind", "like", "by", name))
            desk.say(("alike", name, "like"))
            self.assertEqual(read(write_turner(desk[name])), turner)
            steps = stair_paper(desk[name])
            self.assertIs(is_stair_paper(desk["like"], steps), True)
            self.assertEqual(read(write_stand(rose_stand(turner))), rose_stand(turner))
            desk.unsay(("alike", name, "like"))
        self.assertEqual([len(desk), desk.past], [14, 36])
