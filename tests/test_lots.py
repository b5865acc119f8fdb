"""Promises [0.10], [0.21] and [3.1] to [3.6]: lots of words, words that make all, and papers about them."""

import itertools
import unittest

import brute
import drawn
from noroadback.base import lots as module
from noroadback.base.lots import (
    all_paper, are_one_lot, do_make_all, is_all_paper, is_way, lot_base, lot_rank, way_of,
)
from noroadback.errors import InvalidNumber, InvalidWord
from wrong import HUGE, LETTERS, LOT, WORD, WrongInputs

SQUARE = ((1, 1), (2,))
SHORT = brute.words_to(2, 2)
LOTS = [lot for number in range(4) for lot in itertools.combinations_with_replacement(brute.words_to(2, 1), number)]
LOTS += list(itertools.product(SHORT, repeat=2))
LONG = (1, 2) * 100


def drawn_lots(seed, many):
    """Pairs (letters, words): words drawn one by one, and words that are mixed from few ones."""
    rng = drawn.dice(seed)
    for _ in range(many):
        letters = rng.randint(1, 5)
        yield letters, drawn.words(rng, letters, 0, 6, rng.choice([1, 2, 3, 6]))
        yield letters, drawn.mixed(rng, drawn.words(rng, letters, 2, 6, 2), 12, 12)
        rows = brute.idle(letters) + ((),) * rng.randint(0 if letters > 1 else 1, 6 - letters)
        yield letters, drawn.mixed(rng, rows, 25, 30)


def is_right_paper(letters, words, paper):
    """Whether a paper shows what it says, by the test's own steps."""
    tag, rows = paper
    if tag == "all":
        return len(rows) == letters and all(brute.told(words, way) == (number + 1,) for number, way in enumerate(rows))
    size = len(rows[0])
    if len(rows) != letters or not 2 <= size <= 1200 or any(sorted(row) != list(range(size)) for row in rows):
        return False
    reached = {0}
    while not all(row[point] in reached for row in rows for point in reached):
        reached |= {row[point] for row in rows for point in reached}
    return tag == "moves" and len(reached) == size and all(place_of(rows, word) == 0 for word in words)


def place_of(rows, word):
    """Where permutations lead the point 0."""
    point = 0
    for entry in word:
        point = rows[entry - 1][point] if entry > 0 else rows[-entry - 1].index(point)
    return point


class Constants(unittest.TestCase):
    def test_constants(self):
        self.assertEqual([module.MAX_WORDS, module.MAX_POINTS], [6, 1200])


class Papers(WrongInputs):
    def assert_right(self, letters, words):
        paper = all_paper(letters, words)
        self.assertEqual((type(paper), len(paper), type(paper[1])), (tuple, 2, tuple))
        self.assertTrue(all(type(row) is tuple for row in paper[1]))
        self.assertTrue(is_right_paper(letters, words, paper), (letters, words, paper))
        self.assertIs(is_all_paper(letters, words, paper), True)
        self.assertIs(do_make_all(letters, words), paper[0] == "all")
        return paper

    def test_papers_of_all_short_lots(self):
        for words in LOTS:
            paper = self.assert_right(2, words)
            ties = brute.web(words)
            self.assertEqual(paper[0] == "all", brute.is_in_lot(ties, (1,)) and brute.is_in_lot(ties, (2,)))

    def test_papers_of_drawn_lots(self):
        tags = [self.assert_right(letters, words)[0] for letters, words in drawn_lots(1, 60)]
        self.assertTrue(min(tags.count("all"), tags.count("moves")) > 50)

    def test_mixed_letters_make_all(self):
        rng = drawn.dice(2)
        for letters in range(1, 6):
            for many in (10, 100, 400):
                rows = brute.idle(letters) + ((),) * rng.randint(1 if letters == 1 else 0, 6 - letters)
                self.assertEqual(self.assert_right(letters, drawn.mixed(rng, rows, many, 200))[0], "all")

    def test_no_words(self):
        for letters in range(1, 6):
            for words in [(), ((),), ((),) * 6]:
                self.assertEqual(self.assert_right(letters, words)[0], "moves")

    def test_one_letter_wants_two_points(self):
        paper = self.assert_right(2, ((1,),))
        self.assertEqual(len(paper[1][0]), 2)
        self.assertEqual(self.assert_right(1, ((1,) * 200, (1,) * 199))[0], "all")
        self.assertEqual(self.assert_right(1, ((1,) * 200, (-1,) * 198))[1], ((1, 0),))

    def test_six_long_words(self):
        rng = drawn.dice(3)
        words = tuple(drawn.word(rng, 5, 0) + tuple(rng.choice([1, 2, 3, 4, 5]) for _ in range(200)) for _ in range(6))
        paper = self.assert_right(5, words)
        self.assertTrue(1000 < len(paper[1][0]) <= 1200)
        self.assertEqual(self.assert_right(2, (LONG, (2,) * 200, (-1, 2) * 100, (2, 1) * 100, (1,) * 200, ()))[0], "moves")

    def test_both_cannot_be(self):
        for words in (((1, 2), (2,)), ((1,), (2,)), ((2,), (1,), (1,))):
            for rows in itertools.product(itertools.permutations(range(3)), repeat=2):
                self.assertFalse(is_right_paper(2, words, ("moves", rows)))
                self.assertIs(is_all_paper(2, words, ("moves", rows)), False)

    def test_wrong_inputs(self):
        self.assert_refuses(all_paper, (2, SQUARE), [LETTERS, LOT])
        self.assert_refuses(do_make_all, (2, SQUARE), [LETTERS, LOT])
        self.assert_refuses(is_all_paper, (2, SQUARE, None), [LETTERS, LOT, None])


class IsAllPaper(WrongInputs):
    def test_all_short_ways(self):
        words = ((1, 2), (2,))
        ways = [way for many in range(4) for way in itertools.product([-2, -1, 1, 2], repeat=many)]
        for first, second in itertools.product(ways, repeat=2):
            told = (brute.told(words, first), brute.told(words, second)) == ((1,), (2,))
            self.assertIs(is_all_paper(2, words, ("all", (first, second))), told)

    def test_all_moves_of_three_points(self):
        for words in (SQUARE, ((1,),), ((1, 2), (2, 1)), ()):
            for rows in itertools.product(itertools.product(range(3), repeat=3), repeat=2):
                paper = ("moves", rows)
                self.assertIs(is_all_paper(2, words, paper), is_right_paper(2, words, paper))

    def test_two_points_and_one(self):
        self.assertIs(is_all_paper(1, (), ("moves", ((1, 0),))), True)
        self.assertIs(is_all_paper(1, (), ("moves", ((0,),))), False)
        self.assertIs(is_all_paper(1, (), ("moves", ((),))), False)
        self.assertIs(is_all_paper(1, (), ("moves", ())), False)
        self.assertIs(is_all_paper(2, ((1,),), ("moves", ((0, 1), (1, 0)))), True)

    def test_many_points(self):
        for size, told in [(1199, True), (1200, True), (1201, False), (2400, False)]:
            row = tuple(range(1, size)) + (0,)
            self.assertIs(is_all_paper(1, (), ("moves", (row,))), told)
            self.assertIs(is_all_paper(2, ((2,),), ("moves", (row, tuple(range(size))))), told)
            self.assertIs(is_all_paper(1, ((1,),), ("moves", (row,))), False)

    def test_moves_that_do_not_hang_together(self):
        self.assertIs(is_all_paper(2, ((2,),), ("moves", ((1, 0, 2), (0, 1, 2)))), False)
        self.assertIs(is_all_paper(2, ((2,),), ("moves", ((1, 0, 3, 2), (0, 1, 2, 3)))), False)
        self.assertIs(is_all_paper(2, ((2,),), ("moves", ((1, 0, 3, 2), (0, 2, 1, 3)))), True)

    def test_moves_under_which_a_word_leaves_the_point(self):
        self.assertIs(is_all_paper(2, ((1, 1), (2,)), ("moves", ((1, 2, 0), (0, 1, 2)))), False)
        self.assertIs(is_all_paper(2, ((2,), (1, 1)), ("moves", ((1, 2, 0), (0, 1, 2)))), False)
        self.assertIs(is_all_paper(2, ((-1, 2, 1), (1, 2, -1)), ("moves", ((1, 2, 0), (0, 1, 2)))), True)
        # The word leads 0 to itself from left to right alone.
        self.assertIs(is_all_paper(2, ((1, 2),), ("moves", ((1, 2, 0), (1, 0, 2)))), True)
        self.assertIs(is_all_paper(2, ((2, 1),), ("moves", ((1, 2, 0), (1, 0, 2)))), False)

    def test_wrong_ways(self):
        words = ((1, 2), (2,))
        first, second = (1, -2), (2,)
        self.assertIs(is_all_paper(2, words, ("all", (first, second))), True)
        wrong = [
            ("all", (second, first)), ("all", (first,)), ("all", (first, second, ())), ("all", [first, second]),
            ["all", (first, second)], ("all", ([1, -2], second)), ("all", (first, [2])), ("all", (first, (2, 0))),
            ("all", ((True, -2), second)), ("all", (first, (3,))), ("all", (first, (-3, 2))), ("all", (first, None)),
            ("all", first, second), ("all",), ("All", (first, second)), ("moves", (first, second)), (None, (first, second)),
            ("all", (first, (HUGE,))), ("all", (first, ("2",))), ("all", (first, ((2,),))), ("all", None), ("all", "12"),
        ]
        for paper in wrong:
            self.assertIs(is_all_paper(2, words, paper), False)

    def test_wrong_moves(self):
        self.assertIs(is_all_paper(2, SQUARE, ("moves", ((1, 0), (0, 1)))), True)
        wrong = [
            ("moves", ((True, 0), (0, 1))), ("moves", ((1, False), (0, 1))), ("moves", ((1, 0), (0, True))),
            ("moves", [(1, 0), (0, 1)]), ("moves", ([1, 0], (0, 1))), ("moves", ((1, 0), [0, 1])), ("moves", ((1, 0),)),
            ("moves", ((1, 0), (0, 1), (0, 1))), ("moves", ((1, 0), (0, 1, 2))), ("moves", ((1, 1), (0, 1))),
            ("moves", ((1, 2), (0, 1))), ("moves", ((1, 0), (0, -1))), ("moves", ((1, 0), (0, None))),
            ("moves", ((1, 0), None)), ("moves", None), ("moves", (1, 0), (0, 1)), ("moves",), ["moves", ((1, 0), (0, 1))],
            ("Moves", ((1, 0), (0, 1))), ("all", ((1, 0), (0, 1))), ("moves", (("1", 0), (0, 1))),
            ("moves", ((1, 0), ((0,), 1))), ("moves", ((1, 0), (0, HUGE))), ("moves", (0, 1)), ("moves", "01"),
        ]
        for paper in wrong:
            self.assertIs(is_all_paper(2, SQUARE, paper), False)

    def test_other_values(self):
        self.assert_judges_strange(is_all_paper, (2, SQUARE), [])
        self.assert_judges_strange(is_all_paper, (1, ((1,),)), [])

    def test_long_ways(self):
        paper = ("all", ((1, -1) * 10000 + (1,), (2,) + (1, 2, -2, -1) * 4999))
        self.assertIs(is_all_paper(2, ((1,), (2,)), paper), True)
        self.assertIs(is_all_paper(2, ((1,), (2,)), ("all", (paper[1][0], paper[1][1] + (1,)))), False)


class Ways(WrongInputs):
    def assert_told(self, letters, words, word):
        way = way_of(letters, words, word)
        self.assertIs(type(way), tuple)
        self.assertTrue(all(type(number) is int and 1 <= abs(number) <= len(words) for number in way))
        self.assertEqual(brute.told(words, way), word)
        self.assertIs(is_way(letters, words, word, way), True)

    def test_ways_to_all_short_words(self):
        for words in LOTS:
            ties = brute.web(words)
            for word in SHORT:
                if brute.is_in_lot(ties, word):
                    self.assert_told(2, words, word)
                else:
                    self.assertIsNone(way_of(2, words, word))

    def test_ways_to_words_that_are_told(self):
        rng = drawn.dice(4)
        for letters, words in drawn_lots(5, 40):
            for many in (1, 2, 5, 20):
                word = brute.told(words, drawn.way(rng, len(words), many))
                if len(word) <= 200:
                    self.assert_told(letters, words, word)

    def test_each_word_is_in_the_lot_of_words_that_make_all(self):
        rng = drawn.dice(6)
        for letters, words in drawn_lots(7, 30):
            if do_make_all(letters, words):
                self.assert_told(letters, words, drawn.word(rng, letters, 20))

    def test_the_empty_word(self):
        for words in [(), ((),), SQUARE, ((1,), (1,))]:
            self.assert_told(2, words, ())
        self.assertEqual(way_of(2, (), ()), ())
        self.assertIsNone(way_of(2, (), (1,)))

    def test_long_words(self):
        self.assert_told(1, ((1,) * 200, (1,) * 199), (1,))
        self.assert_told(1, ((1,) * 144, (1,) * 89), (-1,))
        self.assert_told(2, (LONG, (1, 2) * 99), LONG[:100])
        self.assert_told(2, (LONG, (1,) * 200), (1,) * 200)
        self.assertIsNone(way_of(2, (LONG, (1,) * 200), (1, 2)))
        self.assert_told(2, ((1,), (2,)), LONG)

    def test_ways_among_more_words_than_are_wanted(self):
        rng = drawn.dice(8)
        for letters in range(1, 6):
            words = drawn.mixed(rng, brute.idle(letters) + ((),) * (6 - letters), 300, 200)
            for letter in range(1, letters + 1):
                self.assert_told(letters, words, (letter,))
                self.assertTrue(len(way_of(letters, words, (letter,))) <= 20000)

    def test_wrong_inputs(self):
        self.assert_refuses(way_of, (2, SQUARE, (2,)), [LETTERS, LOT, WORD])
        self.assert_refuses(is_way, (2, SQUARE, (2,), None), [LETTERS, LOT, WORD, None])


class LevelSteps(WrongInputs):
    """Words that want steps by which no word gets shorter, also with halves of more than one entry."""

    # No two of these, or of their contraries, begin with one entry: so they stand in the place of letters.
    BLOCKS = [((1, 2), (3, 4), (2, 1), (4, 3)), ((1, 1, 2), (3, 2, 4), (2, 3, 1), (4, 5, 3)), ((2, 1), (4, 3), (1, 2), (3, 4))]
    IMAGES = [((3, 2), (1, 2, 2), (3, -1)), ((3, 1, 1), (2, 1), (3, -2), (4,)), ((1, 3), (2, 4), (-4, -1, 3), (-3, 4)),
              ((-2, 1), (-2, 3), (-1, 3, 3), (-1, 2, 4, 3)), ((-4, 1, 4), (4, 2, 4, 3), (-3, 2, 3), (4, 2)),
              ((2, 1), (2, -4, 2), (-1, -2, 3, -2), (4, -3, 2, 1))]

    def assert_blocks_are_told(self, images, blocks):
        words = tuple(brute.told(blocks, image) for image in images)
        for block in blocks[:len(images)]:
            for word in (block, brute.back(block), block * 3):
                way = way_of(5, words, word)
                self.assertEqual(brute.told(words, way), word)

    def test_blocks_in_the_place_of_letters(self):
        for images in self.IMAGES:
            for blocks in self.BLOCKS:
                for order in itertools.permutations(blocks):
                    self.assert_blocks_are_told(images, order)

    def test_drawn_images_of_blocks(self):
        rng = drawn.dice(16)
        for _ in range(300):
            images = drawn.images(rng, rng.choice([3, 4]), rng.randint(2, 10), 4)
            self.assert_blocks_are_told(images, rng.choice(self.BLOCKS))


class IsWay(WrongInputs):
    def test_all_short_ways(self):
        for words in (SQUARE, ((1, 2), (2,)), ((1,), (1,)), ((), (1, 2))):
            for way in [way for many in range(5) for way in itertools.product([-2, -1, 1, 2], repeat=many)]:
                for word in [(), (1,), (2,), (1, 1), (1, 2), (1, 1, -2), (2, 2)]:
                    self.assertIs(is_way(2, words, word, way), brute.told(words, way) == word)

    def test_numbers_of_the_words_alone(self):
        for way in [(3,), (-3,), (0,), (1, 0), (3, -3), (HUGE,), (-HUGE, HUGE), (10 ** 5000,)]:
            self.assertIs(is_way(2, SQUARE, (), way), False)
        self.assertIs(is_way(2, (), (), (1, -1)), False)
        self.assertIs(is_way(2, (), (), ()), True)
        self.assertIs(is_way(2, ((1,),) * 6, (1,), (6,)), True)
        self.assertIs(is_way(2, ((1,),) * 6, (1,), (7,)), False)

    def test_other_values(self):
        for way in [None, [1], [1, -1], (True,), (True, -1), ("1",), 1, "1", ((1,),), (1, None), {1: 1}, (1, True, -1)]:
            self.assertIs(is_way(2, SQUARE, (1, 1), way), False)
            self.assertIs(is_way(2, SQUARE, (), way), False)
        self.assertIs(is_way(2, SQUARE, (1,), None), False)
        self.assert_judges_strange(is_way, (2, SQUARE, (2,)), [])

    def test_long_ways(self):
        self.assertIs(is_way(2, (LONG, (2,)), LONG, (1, 1, -1) * 6666 + (-1,) * 6665), True)
        self.assertIs(is_way(2, (LONG, (2,)), LONG, (1, 1, -1) * 6666 + (-1,) * 6664), False)


class Ranks(WrongInputs):
    def test_ranks_and_bases_of_all_short_lots(self):
        for words in LOTS:
            self.assertEqual(lot_rank(2, words), brute.rank(brute.web(words)))
            self.assert_base(2, words)

    def assert_base(self, letters, words):
        base = lot_base(letters, words)
        rank = lot_rank(letters, words)
        self.assertEqual((type(base), len(base), type(rank)), (tuple, rank, int))
        self.assertTrue(rank <= len(words))
        self.assertTrue(all(type(word) is tuple and brute.is_bare(word) and len(word) <= 200 for word in base))
        ties, made = brute.web(words), brute.web(base)
        self.assertTrue(all(brute.is_in_lot(ties, word) for word in base))
        self.assertTrue(all(brute.is_in_lot(made, word) for word in words))
        return base

    def test_ranks_and_bases_of_drawn_lots(self):
        for letters, words in drawn_lots(9, 15):
            self.assertEqual(lot_rank(letters, words), brute.rank(brute.web(words)))
            self.assert_base(letters, words)

    def test_no_word_of_a_base_can_be_left_out(self):
        for letters, words in drawn_lots(10, 15):
            base = lot_base(letters, words)
            for place in range(len(base)):
                less = base[:place] + base[place + 1:]
                self.assertEqual(lot_rank(letters, less), len(base) - 1)
                self.assertIs(are_one_lot(letters, less, base), False)

    def test_ranks_stay_when_words_are_mixed(self):
        rng = drawn.dice(11)
        for rows, rank in [(((1, 1), (2, 2), ()), 2), (((1, 2, -1), (2,), (), ()), 2), (((1,), (), (), ()), 1),
                           (((1, 1), (2, 2), (1, 2), (2, 1), ()), 3), (((1, 2), (3, 4), (5, 5), ()), 3)]:
            for _ in range(10):
                self.assertEqual(lot_rank(5, drawn.mixed(rng, rows, 60, 100)), rank)

    def test_lots_without_letters(self):
        for words in [(), ((),), ((),) * 6]:
            self.assertEqual((lot_rank(2, words), lot_base(2, words)), (0, ()))

    def test_words_that_make_all_have_the_rank_of_the_letters(self):
        for letters, words in drawn_lots(12, 20):
            if do_make_all(letters, words):
                self.assertEqual(lot_rank(letters, words), letters)

    def test_long_words(self):
        rng = drawn.dice(13)
        words = tuple(tuple(rng.choice([1, 2, 3, 4, 5]) for _ in range(200)) for _ in range(6))
        base = lot_base(5, words)
        self.assertEqual((len(base), lot_rank(5, words)), (6, 6))
        self.assertTrue(all(len(word) <= 200 for word in base))
        self.assertIs(are_one_lot(5, words, base), True)
        self.assertEqual([len(word) for word in lot_base(1, ((1,) * 200,))], [200])
        self.assertEqual(lot_rank(2, (LONG, (2, 1) * 100, (1,), (2,) * 200, (), (1,) * 199)), 3)

    def test_wrong_inputs(self):
        self.assert_refuses(lot_rank, (2, SQUARE), [LETTERS, LOT])
        self.assert_refuses(lot_base, (2, SQUARE), [LETTERS, LOT])


class OneLot(WrongInputs):
    def test_pairs_of_short_lots(self):
        lots = LOTS[:60]
        webs = [brute.web(words) for words in lots]
        for one, first in zip(lots, webs):
            for other, second in zip(lots, webs):
                within = all(brute.is_in_lot(second, word) for word in one)
                around = all(brute.is_in_lot(first, word) for word in other)
                self.assertIs(are_one_lot(2, one, other), within and around)

    def test_mixed_words_have_one_lot(self):
        rng = drawn.dice(14)
        for letters, words in drawn_lots(15, 30):
            if 2 <= len(words) <= 6:
                other = drawn.mixed(rng, words, 20, 100)
                self.assertIs(are_one_lot(letters, words, other), True)
                self.assertIs(are_one_lot(letters, other, words[::-1]), True)

    def test_a_lot_within_another_one_of_its_rank(self):
        self.assertIs(are_one_lot(2, ((1, 1),), ((1,),)), False)
        self.assertIs(are_one_lot(2, ((1,),), ((1, 1),)), False)
        self.assertEqual((lot_rank(2, ((1, 1),)), lot_rank(2, ((1,),))), (1, 1))

    def test_wrong_inputs(self):
        self.assert_refuses(are_one_lot, (2, SQUARE, SQUARE), [LETTERS, LOT, LOT])


class WhatIsNotTrue(unittest.TestCase):
    def test_a_lot_without_all_words_can_have_a_great_rank(self):
        words = ((1, 1), (2,), (1, 2, -1))
        self.assertEqual((do_make_all(2, words), lot_rank(2, words)), (False, 3))

    def test_moves_want_more_points_than_the_longest_word_has_entries(self):
        self.assertIs(do_make_all(2, ((1,),)), False)
        self.assertIs(is_all_paper(2, ((1,),), ("moves", ((0,), (0,)))), False)


class Edges(WrongInputs):
    def test_six_words_and_seven(self):
        for call in (all_paper, do_make_all, lot_rank, lot_base):
            call(2, ((1,),) * 6)
            self.assert_raises_with(InvalidWord, None, None, call, 2, ((1,),) * 7)

    def test_words_of_200_entries_and_201(self):
        for call in (all_paper, do_make_all, lot_rank, lot_base):
            call(2, ((2,) * 200,))
            self.assert_raises_with(InvalidWord, None, None, call, 2, ((2,) * 201,))
        self.assertIs(is_way(2, ((2,),), (2,) * 200, (1,) * 200), True)
        self.assert_raises_with(InvalidWord, None, None, is_way, 2, ((2,),), (2,) * 201, (1,) * 201)

    def test_numbers_of_letters(self):
        for call in (all_paper, do_make_all, lot_rank, lot_base):
            for letters in (1, 5):
                call(letters, ((1,), (letters,)))
                self.assert_raises_with(InvalidWord, None, None, call, letters, ((letters + 1,),))
            for letters in (0, 6):
                self.assert_raises_with(InvalidNumber, "given", letters, call, letters, ())
