"""Promises [0.7], [0.8] and [1.1] to [1.6]: words, products, powers and roots."""

import itertools
import unittest

import brute
from noroadback.base import words as module
from noroadback.base.words import (
    bare, common_root, contrary, is_common_root, is_word, power, product, root, word_number, words_of,
)
from noroadback.errors import InvalidNumber, InvalidWord, Refused, TooMany
from wrong import LETTERS, STRANGE, WORD, WRONG_WORDS, WrongInputs, integers_but

LONG = (1, 2) * 100
TOO_LONG = LONG + (1,)


class Constants(unittest.TestCase):
    def test_constants(self):
        told = [module.MAX_LETTERS, module.MAX_WORD, module.MAX_ROW, module.MOST_POWER, module.MOST_LISTED]
        self.assertEqual(told, [5, 200, 400, 50, 6])


class IsWord(WrongInputs):
    def test_rows_without_opposite_neighbours_are_words(self):
        for letters in (1, 2, 3):
            for length in range(5):
                for row in brute.rows(letters, length):
                    self.assertIs(is_word(letters, row), brute.is_bare(row))

    def test_letters_end_at_their_number(self):
        for letters in range(1, 6):
            self.assertIs(is_word(letters, (letters,)), True)
            self.assertIs(is_word(letters, (-letters,)), True)
            self.assertIs(is_word(letters, (letters + 1,)), False)
            self.assertIs(is_word(letters, (-letters - 1,)), False)
            self.assertIs(is_word(letters, (0,)), False)

    def test_length(self):
        self.assertIs(is_word(1, ()), True)
        self.assertIs(is_word(2, LONG), True)
        self.assertIs(is_word(2, TOO_LONG), False)

    def test_what_is_no_word(self):
        self.assert_judges_strange(is_word, (2,), [(1,), (1, 2)])
        for value in WRONG_WORDS:
            self.assertIs(is_word(2, value), False)

    def test_true_is_not_one(self):
        for value in [(True,), (1, True), (False,), (2, True, 2)]:
            self.assertIs(is_word(2, value), False)

    def test_letters_are_checked_whatever_the_value_is(self):
        self.assert_refuses(is_word, (2, (1,)), [LETTERS, None])
        for value in STRANGE:
            self.assert_raises_with(InvalidNumber, "given", 6, is_word, 6, value)


class Bare(WrongInputs):
    def test_each_sequence_of_strikes_leaves_the_bare_form(self):
        left = {}
        for length in range(7):
            for row in brute.rows(2, length):
                spots = [place for place in range(length - 1) if row[place] + row[place + 1] == 0]
                left[row] = set.union(*[left[row[:place] + row[place + 2:]] for place in spots]) if spots else {row}
                self.assertEqual(left[row], {bare(2, row)})

    def test_a_word_is_its_bare_form(self):
        for word in brute.words_to(3, 4):
            self.assertEqual(bare(3, word), word)

    def test_long_rows(self):
        self.assertEqual(bare(5, (5,) * 400), (5,) * 400)
        self.assertEqual(bare(2, (1, -1) * 200), ())
        self.assertEqual(bare(2, (1,) * 200 + (-1,) * 200), ())
        self.assertEqual(bare(2, (2,) + (1,) * 199 + (-1,) * 199 + (2,)), (2, 2))

    def test_result_is_a_tuple(self):
        self.assertIs(type(bare(2, (1, -1))), tuple)

    def test_wrong_inputs(self):
        rows = STRANGE + [[], [1, 2], (3,), (1, -3), (0,), (1, 0, 2), (1,) * 401, (1, -1) * 200 + (1,), "", 0]
        self.assert_refuses(bare, (2, (1,)), [LETTERS, (InvalidWord, None, rows)])


class Products(WrongInputs):
    def test_product_is_the_bare_form_of_one_behind_the_other(self):
        for words in itertools.product(brute.words_to(2, 2), repeat=3):
            self.assertEqual(product(2, *words), brute.times(*words))

    def test_products_group_and_the_empty_word_changes_nothing(self):
        for one, two, three in itertools.product(brute.words_to(2, 2), repeat=3):
            left = product(2, product(2, one, two), three)
            self.assertEqual(left, product(2, one, product(2, two, three)))
            self.assertEqual(left, product(2, (), one, (), two, three))

    def test_any_number_of_words(self):
        self.assertEqual(product(3), ())
        self.assertEqual(product(3, (3, 1)), (3, 1))
        self.assertEqual(product(1, *[(1,)] * 50), (1,) * 50)

    def test_products_can_be_long(self):
        self.assertEqual(product(2, LONG, LONG), LONG + LONG)
        self.assertEqual(product(2, *[LONG] * 50), LONG * 50)

    def test_most_words(self):
        self.assert_raises_with(TooMany, "most", 50, product, 1, *[(1,)] * 51)
        self.assert_raises_with(TooMany, "most", 50, product, 2, *[()] * 100)

    def test_a_wrong_word_is_refused_ahead_of_too_many(self):
        for value in WRONG_WORDS:
            self.assert_raises_with(InvalidWord, None, None, product, 2, *[(1,)] * 51, value)
            self.assert_raises_with(InvalidNumber, "given", 0, product, 0, *[(1,)] * 51, value)
        self.assert_raises_with(InvalidNumber, "given", True, product, True, *[()] * 51)

    def test_wrong_inputs(self):
        self.assert_refuses(product, (2, (1,), (2,), (1, 2)), [LETTERS, WORD, WORD, WORD])
        self.assert_refuses(product, (2,), [LETTERS])
        self.assert_raises_with(InvalidWord, None, None, product, 2, TOO_LONG)


class Contraries(WrongInputs):
    def test_contrary_is_turned_round_and_opposite(self):
        for word in brute.words_to(3, 3):
            self.assertEqual(contrary(3, word), brute.back(word))
            self.assertEqual(product(3, word, contrary(3, word)), ())
            self.assertEqual(product(3, contrary(3, word), word), ())

    def test_contrary_of_a_product(self):
        for one, other in itertools.product(brute.words_to(2, 3), repeat=2):
            turned_round = product(2, contrary(2, other), contrary(2, one))
            self.assertEqual(contrary(2, product(2, one, other)), turned_round)

    def test_no_word_but_the_empty_one_is_its_contrary(self):
        for word in brute.words_to(2, 5):
            self.assertEqual(contrary(2, word) == word, word == ())

    def test_wrong_inputs(self):
        self.assert_refuses(contrary, (2, (1,)), [LETTERS, WORD])
        self.assertEqual(contrary(2, LONG), (-2, -1) * 100)


class Powers(WrongInputs):
    def test_power_is_the_product_of_so_many_words(self):
        for word in brute.words_to(2, 4):
            for many in range(-5, 6):
                self.assertEqual(power(2, word, many), brute.raised(word, many))

    def test_no_power_is_empty(self):
        for word in brute.words_to(2, 4):
            for many in (-50, -3, -1, 1, 2, 50):
                self.assertEqual(power(2, word, many) == (), word == ())
            self.assertEqual(power(2, word, 0), ())

    def test_powers_can_be_long(self):
        self.assertEqual(power(2, LONG, 50), LONG * 50)
        self.assertEqual(power(2, LONG, -50), (-2, -1) * 5000)
        self.assertEqual(power(2, (1,) * 99 + (2,) + (-1,) * 99, 50), (1,) * 99 + (2,) * 50 + (-1,) * 99)

    def test_squares_of_one_length_can_be_of_words_of_two_lengths(self):
        self.assertEqual(len(power(2, (1, 2, -1), 2)), len(power(2, (1, 2), 2)))

    def test_wrong_inputs(self):
        many = (InvalidNumber, "given", integers_but(-50, 50))
        self.assert_refuses(power, (2, (1,), 3), [LETTERS, WORD, many])
        self.assert_refuses(power, (2, (), 0), [LETTERS, WORD, many])


class Roots(WrongInputs):
    def test_roots_of_all_short_words(self):
        greatest = {}
        for word in brute.words_to(2, 6):
            for many in range(1, 7):
                found = brute.raised(word, many)
                greatest.setdefault(found, []).append((many, word))
        for word in brute.words_to(2, 6)[1:]:
            many, base = max(greatest[word])
            self.assertEqual(root(2, word), (base, many))
            self.assertEqual([pair for pair in greatest[word] if pair[0] == many], [(many, base)])

    def test_root_of_a_root_and_of_a_contrary(self):
        for word in brute.words_to(3, 4)[1:]:
            base, many = root(3, word)
            self.assertEqual(power(3, base, many), word)
            self.assertEqual(root(3, base), (base, 1))
            self.assertEqual(root(3, contrary(3, word)), (contrary(3, base), many))

    def test_long_words(self):
        self.assertEqual(root(2, LONG), ((1, 2), 100))
        self.assertEqual(root(1, (-1,) * 200), ((-1,), 200))
        self.assertEqual(root(2, (1,) * 50 + (2,) * 100 + (-1,) * 50), ((1,) * 50 + (2,) + (-1,) * 50, 100))
        self.assertEqual(root(2, LONG[:-1]), (LONG[:-1], 1))

    def test_root_of_a_product_need_not_be_the_product_of_the_roots(self):
        roots = [root(2, word)[0] for word in ((1, 1), (2,))]
        self.assertEqual(root(2, product(2, (1, 1), (2,))), ((1, 1, 2), 1))
        self.assertNotEqual(root(2, (1, 1, 2))[0], product(2, *roots))

    def test_empty_word_is_refused_behind_all_other_errors(self):
        for letters in range(1, 6):
            self.assert_raises_with(Refused, None, None, root, letters, ())
        with self.assertRaises(Refused) as caught:
            root(2, ())
        self.assertEqual(caught.exception.reason, ("empty",))
        self.assert_raises_with(InvalidNumber, "given", 6, root, 6, ())

    def test_wrong_inputs(self):
        self.assert_refuses(root, (2, (1,)), [LETTERS, WORD])


class CommonRoots(WrongInputs):
    def test_papers_of_all_short_words(self):
        powers = {base: {brute.raised(base, many) for many in range(-4, 5)} for base in brute.words_to(2, 4)}
        for one, other in itertools.product(brute.words_to(2, 3), repeat=2):
            paper = common_root(2, one, other)
            self.assertIs(is_common_root(2, one, other, paper), True)
            shared = any(one in found and other in found for found in powers.values())
            commute = brute.times(one, other) == brute.times(other, one)
            self.assertEqual((paper[0], commute), ("root", True) if shared else ("unlike", False))

    def test_papers_tell_what_they_say(self):
        for one, other in itertools.product(brute.words_to(2, 3), repeat=2):
            paper = common_root(2, one, other)
            if paper[0] == "root":
                tag, base, first, second = paper
                self.assertEqual((brute.raised(base, first), brute.raised(base, second)), (one, other))
                self.assertTrue(is_word(2, base))
                self.assertEqual((type(first), type(second)), (int, int))
            else:
                self.assertEqual(paper, ("unlike", brute.times(one, other), brute.times(other, one)))

    def test_powers_of_long_words(self):
        base = (1,) * 20 + (2, 1, 1, 2) + (-1,) * 20
        for one, other in [(3, -5), (-2, 0), (0, 4), (0, 0), (1, 1)]:
            words = [power(2, base, one), power(2, base, other)]
            paper = common_root(2, *words)
            self.assertEqual(paper[0], "root")
            self.assertIs(is_common_root(2, *words, paper), True)
            self.assertIs(is_common_root(2, *words, ("root", base, one, other)), True)
            self.assertIs(is_common_root(2, *words, ("root", contrary(2, base), -one, -other)), True)

    def test_words_with_equal_powers_are_powers_of_one_word(self):
        powers = {}
        for word, many in itertools.product(brute.words_to(2, 4)[1:], (1, 2, 3, 4)):
            powers.setdefault(brute.raised(word, many), []).append(word)
        for found in powers.values():
            for one, other in itertools.product(found, repeat=2):
                self.assertEqual(common_root(2, one, other)[0], "root")

    def test_wrong_inputs(self):
        self.assert_refuses(common_root, (2, (1,), (2,)), [LETTERS, WORD, WORD])
        self.assert_refuses(is_common_root, (2, (1,), (2,), None), [LETTERS, WORD, WORD, None])


class IsCommonRoot(WrongInputs):
    def test_each_root_is_accepted_and_nothing_else(self):
        accepted = [
            ("root", (1,), 4, -2), ("root", (-1,), -4, 2), ("root", (1, 1), 2, -1), ("root", (-1, -1), -2, 1),
        ]
        for base, one, other in itertools.product(brute.words_to(2, 3), range(-5, 6), range(-5, 6)):
            paper = ("root", base, one, other)
            self.assertIs(is_common_root(2, (1,) * 4, (-1, -1), paper), paper in accepted)

    def test_a_root_need_not_be_the_shortest_one(self):
        self.assertIs(is_common_root(2, (1, 1), (1, 1), ("root", (1, 1), 1, 1)), True)
        self.assertIs(is_common_root(2, (1, 1), (1,), ("root", (1, 1), 1, 1)), False)

    def test_one_right_power_is_not_enough(self):
        self.assertIs(is_common_root(2, (1, 1), (2,), ("root", (1,), 2, 0)), False)
        self.assertIs(is_common_root(2, (2,), (1, 1), ("root", (1,), 0, 2)), False)

    def test_both_words_empty(self):
        for letters in range(1, 6):
            paper = common_root(letters, (), ())
            self.assertEqual((paper[0], is_word(letters, paper[1])), ("root", True))
            self.assertIs(is_common_root(letters, (), (), paper), True)
        for paper in [("root", (), 0, 0), ("root", (), 3, -9), ("root", (2, 1), 0, 0), ("root", LONG, 0, 0)]:
            self.assertIs(is_common_root(2, (), (), paper), True)
        for paper in [("root", (1,), 1, 0), ("root", (1,), 0, -1), ("root", TOO_LONG, 0, 0), ("unlike", (), ())]:
            self.assertIs(is_common_root(2, (), (), paper), False)

    def test_exponents_of_any_length(self):
        for many in [10 ** 59, 10 ** 60, -10 ** 60, 10 ** 99, 10 ** 5000]:
            self.assertIs(is_common_root(2, (), (), ("root", (), many, -many)), True)
            self.assertIs(is_common_root(2, (), (), ("root", (1,), many, 0)), False)
            self.assertIs(is_common_root(2, (1,), (1,), ("root", (1,), 1, many)), False)
            self.assertIs(is_common_root(2, (), (1,), ("root", (), many, many)), False)

    def test_exponents_are_integers(self):
        self.assertIs(is_common_root(2, (1,), (), ("root", (1,), 1, 0)), True)
        for exponents in [(True, 0), (1, False), (1, None), ("1", 0), ((1,), 0), (1, "")]:
            self.assertIs(is_common_root(2, (1,), (), ("root", (1,)) + exponents), False)

    def test_roots_are_words(self):
        for base in [(True,), [1], (1, 1, -1), (3,), 1, None, "1", ((1,),), (0,)]:
            self.assertIs(is_common_root(2, (1,), (1,), ("root", base, 1, 1)), False)
            self.assertIs(is_common_root(2, (), (), ("root", base, 0, 0)), False)

    def test_unlike_words(self):
        first, second = (1, 2), (2, 1)
        self.assertIs(is_common_root(2, (1,), (2,), ("unlike", first, second)), True)
        wrong = [
            ("unlike", second, first), ("unlike", first, first), ("unlike", second, second), ("unlike", first),
            ("unlike", first, second, ()), ("unlike", [1, 2], second), ("unlike", first, [2, 1]),
            ("unlike", (True, 2), second), ("unlike", first, (2, True)), ["unlike", first, second],
            ("Unlike", first, second), ("root", first, second), ("unlike", None, second), ("unlike",),
            ("unlike", (1, 2, 2, -2), second), ("unlike", first, (2, -2, 2, 1)), (None, first, second),
        ]
        for paper in wrong:
            self.assertIs(is_common_root(2, (1,), (2,), paper), False)

    def test_equal_products_are_not_unlike(self):
        self.assertIs(is_common_root(2, (1,), (1, 1), ("unlike", (1,) * 3, (1,) * 3)), False)

    def test_products_of_long_words(self):
        one, other = (1,) * 200, (2,) * 200
        paper = common_root(2, one, other)
        self.assertEqual(paper, ("unlike", one + other, other + one))
        self.assertIs(is_common_root(2, one, other, paper), True)

    def test_other_values(self):
        for paper in [("root", (1,), 1), ("root", (1,), 1, 1, 1), ["root", (1,), 1, 1], ((1,), 1, 1), "root", ("root",)]:
            self.assertIs(is_common_root(2, (1,), (1,), paper), False)
        self.assert_judges_strange(is_common_root, (2, (1,), (2,)), [])
        self.assert_judges_strange(is_common_root, (2, (), ()), [])
        self.assertIs(is_common_root(2, (), (), ()), False)


class Lists(WrongInputs):
    def test_all_words_of_a_length_ascending(self):
        for letters, most in [(1, 6), (2, 6), (3, 4), (4, 3), (5, 3)]:
            for length in range(most + 1):
                self.assertEqual(list(words_of(letters, length)), brute.words(letters, length))

    def test_longest_words(self):
        found = list(words_of(3, 6))
        self.assertEqual(len(found), word_number(3, 6))
        self.assertEqual(found, sorted(set(found)))
        self.assertTrue(all(len(word) == 6 and brute.is_bare(word) for word in found))

    def test_lists_do_not_disturb_one_another(self):
        one, other = words_of(2, 2), words_of(2, 2)
        self.assertEqual([next(one), next(one), next(other)], [(-2, -2), (-2, -1), (-2, -2)])

    def test_errors_come_with_the_first_element(self):
        for letters, length in [(0, 2), (2, 7), (True, True), (None, -1), (6, 7)]:
            found = words_of(letters, length)
            wrong = length if letters == 2 else letters
            self.assert_raises_with(InvalidNumber, "given", wrong, next, found)

    def test_wrong_inputs(self):
        def listed(letters, length):
            return list(words_of(letters, length))
        length = (InvalidNumber, "given", integers_but(0, 6))
        self.assert_refuses(listed, (2, 2), [LETTERS, length])


class Numbers(WrongInputs):
    def test_numbers_of_short_words(self):
        for letters, most in [(1, 6), (2, 5), (3, 4), (4, 3), (5, 3)]:
            for length in range(most + 1):
                number = word_number(letters, length)
                self.assertEqual((type(number), number), (int, len(brute.words(letters, length))))

    def test_number_by_the_formula(self):
        for letters in range(1, 6):
            self.assertEqual(word_number(letters, 0), 1)
            for length in (1, 2, 6, 7, 50, 999, 1000):
                self.assertEqual(word_number(letters, length), 2 * letters * (2 * letters - 1) ** (length - 1))

    def test_wrong_inputs(self):
        length = (InvalidNumber, "given", integers_but(0, 1000))
        self.assert_refuses(word_number, (2, 2), [LETTERS, length])
