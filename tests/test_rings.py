"""Promises [0.9] and [2.1] to [2.4]: cores, rings and words that are alike."""

import itertools
import math
import unittest

import brute
from noroadback.base import rings as module
from noroadback.base.rings import (
    are_alike, between, core, is_between, is_ring, ring, ring_number, rings_of, turned,
)
from noroadback.base.words import contrary, power, product, root
from noroadback.errors import InvalidNumber
from wrong import LETTERS, STRANGE, WORD, WRONG_WORDS, WrongInputs, integers_but

LONG = (1, 2) * 100
SHORT = brute.words_to(2, 4)


class Constants(unittest.TestCase):
    def test_constants(self):
        self.assertEqual([module.MOST_LISTED, module.MOST_NUMBERED], [6, 200])


class Cores(WrongInputs):
    def test_a_word_is_its_core_turned_without_strikes(self):
        for word in brute.words_to(2, 6) + brute.words_to(3, 4):
            head, middle = core(3, word)
            self.assertEqual(head + middle + brute.back(head), word)
            self.assertTrue(middle == () or middle[0] + middle[-1] != 0)
            self.assertEqual(middle, brute.core_of(word))
            self.assertEqual([type(head), type(middle)], [tuple, tuple])

    def test_core_of_the_empty_word(self):
        self.assertEqual(core(1, ()), ((), ()))

    def test_long_words(self):
        word = (1, 2) * 49 + (1,) + (2, 2) + (-1,) + (-2, -1) * 49
        self.assertEqual(core(2, word), ((1, 2) * 49 + (1,), (2, 2)))
        self.assertEqual(core(2, LONG), ((), LONG))

    def test_rotations_of_cores_are_cores(self):
        for word in brute.words_to(2, 5):
            for rotation in brute.rotations(core(2, word)[1]):
                self.assertEqual(core(2, rotation), ((), rotation))

    def test_wrong_inputs(self):
        self.assert_refuses(core, (2, (1,)), [LETTERS, WORD])


class Rings(WrongInputs):
    def test_ring_is_the_least_rotation_of_the_core(self):
        for word in brute.words_to(2, 7) + brute.words_to(3, 4):
            self.assertEqual(ring(3, word), min(brute.rotations(brute.core_of(word))))

    def test_rings_of_powers(self):
        for word in SHORT:
            for many in range(1, 6):
                self.assertEqual(ring(2, power(2, word, many)), ring(2, word) * many)

    def test_long_words(self):
        self.assertEqual(ring(2, (2, 1) * 100), LONG)
        self.assertEqual(ring(2, (2,) + (1,) * 199), (1,) * 199 + (2,))
        self.assertEqual(ring(2, (1,) * 199 + (2,)), (1,) * 199 + (2,))
        self.assertEqual(ring(1, (-1,) * 200), (-1,) * 200)

    def test_ring_of_a_product_hangs_on_more_than_the_rings(self):
        self.assertEqual(ring(2, (1,)), ring(2, (2, 1, -2)))
        self.assertNotEqual(ring(2, product(2, (1,), (1,))), ring(2, product(2, (1,), (2, 1, -2))))

    def test_wrong_inputs(self):
        self.assert_refuses(ring, (2, (1,)), [LETTERS, WORD])


class IsRing(WrongInputs):
    def test_rings_are_least_rotations(self):
        for length in range(6):
            for row in brute.rows(2, length):
                closed = row == () or row[0] + row[-1] != 0
                told = brute.is_bare(row) and closed and row == min(brute.rotations(row))
                self.assertIs(is_ring(2, row), told)

    def test_length(self):
        self.assertIs(is_ring(2, LONG), True)
        self.assertIs(is_ring(1, (1,) * 200), True)
        self.assertIs(is_ring(1, (1,) * 201), False)

    def test_what_is_no_ring(self):
        self.assert_judges_strange(is_ring, (2,), [(1,), (1, 2)])
        for value in WRONG_WORDS:
            self.assertIs(is_ring(2, value), False)

    def test_letters_are_checked(self):
        self.assert_refuses(is_ring, (2, (1,)), [LETTERS, None])
        for value in STRANGE:
            self.assert_raises_with(InvalidNumber, "given", 0, is_ring, 0, value)


class Turned(WrongInputs):
    def test_turned_words(self):
        for word, by in itertools.product(SHORT, brute.words_to(2, 3)):
            self.assertEqual(turned(2, word, by), brute.times(by, word, brute.back(by)))

    def test_long_words(self):
        self.assertEqual(turned(2, LONG, (2,) * 200), (2,) * 200 + LONG[:-1] + (-2,) * 199)
        self.assertEqual(len(turned(3, LONG, (3,) * 200)), 600)

    def test_wrong_inputs(self):
        self.assert_refuses(turned, (2, (1,), (2,)), [LETTERS, WORD, WORD])


class Alike(WrongInputs):
    def test_alike_words_are_those_that_are_turned_to_one_another(self):
        for one in brute.words_to(2, 3):
            found = {brute.times(by, one, brute.back(by)) for by in brute.words_to(2, 4)}
            for other in brute.words_to(2, 3):
                self.assertIs(are_alike(2, one, other), other in found)
                self.assertEqual(are_alike(2, one, other), ring(2, one) == ring(2, other))

    def test_no_word_but_the_empty_one_is_alike_to_its_contrary(self):
        for word in brute.words_to(2, 6):
            self.assertIs(are_alike(2, word, contrary(2, word)), word == ())

    def test_equal_sums_of_signs_are_not_enough(self):
        self.assertIs(are_alike(2, (1, 2, -1, -2), ()), False)

    def test_alike_words_need_not_be_rotations(self):
        self.assertIs(are_alike(2, (1, 2, -1), (2,)), True)

    def test_wrong_inputs(self):
        self.assert_refuses(are_alike, (2, (1,), (2,)), [LETTERS, WORD, WORD])


class Between(WrongInputs):
    def assert_between(self, letters, one, other):
        """There is a word as told between two words that are alike."""
        found = between(letters, one, other)
        self.assertTrue(type(found) is tuple and len(found) <= 400 and brute.is_bare(found))
        self.assertEqual(brute.times(found, one, brute.back(found)), other)
        self.assertIs(is_between(letters, one, other, found), True)

    def test_there_is_one_just_between_alike_words(self):
        for one, other in itertools.product(SHORT, repeat=2):
            if min(brute.rotations(brute.core_of(one))) == min(brute.rotations(brute.core_of(other))):
                self.assert_between(2, one, other)
            else:
                self.assertIsNone(between(2, one, other))

    def test_long_words(self):
        heads = [(1,) * 99, (2, 1) * 49 + (2,)]
        for one, other in itertools.product(heads, repeat=2):
            words = [head + (3, 3) + brute.back(head) for head in (one, other)]
            self.assert_between(3, *words)
        self.assert_between(2, LONG, (2, 1) * 100)
        row = (1,) * 100 + (2,) * 100
        for place in (1, 50, 100, 101, 199):
            self.assert_between(2, row, row[place:] + row[:place])
            self.assert_between(2, row[place:] + row[:place], row)

    def test_between_the_empty_word_and_others(self):
        self.assert_between(2, (), ())
        self.assertIsNone(between(2, (), (1,)))
        self.assertIsNone(between(2, (1,), ()))

    def test_wrong_inputs(self):
        self.assert_refuses(between, (2, (1,), (2,)), [LETTERS, WORD, WORD])
        self.assert_refuses(is_between, (2, (1,), (2,), ()), [LETTERS, WORD, WORD, None])


class IsBetween(WrongInputs):
    def test_just_the_told_words_are_accepted(self):
        for one, other in itertools.product(brute.words_to(2, 2), repeat=2):
            for value in brute.words_to(2, 4):
                told = brute.times(value, one, brute.back(value)) == other
                self.assertIs(is_between(2, one, other, value), told)

    def test_all_are_one_of_them_times_powers_of_the_root(self):
        for one in brute.words_to(2, 3)[1:]:
            base = root(2, one)[0]
            for by in brute.words_to(2, 2):
                other = brute.times(by, one, brute.back(by))
                told = {brute.times(by, brute.raised(base, many)) for many in range(-9, 10)}
                for value in brute.words_to(2, 4):
                    self.assertIs(is_between(2, one, other, value), value in told)

    def test_length(self):
        self.assertIs(is_between(2, (1,), (1,), (1,) * 400), True)
        self.assertIs(is_between(2, (1,), (1,), (1,) * 401), False)
        self.assertIs(is_between(2, (), (), LONG * 2), True)
        self.assertIs(is_between(2, (), (), LONG * 2 + (1,)), False)
        self.assertIs(is_between(2, (2,), (2,), (1,) * 400), False)

    def test_each_word_leads_the_empty_word_to_itself(self):
        for value in SHORT:
            self.assertIs(is_between(2, (), (), value), True)
            self.assertIs(is_between(2, (), (1,), value), False)

    def test_what_is_no_word(self):
        self.assertIs(is_between(2, (1,), (2,), None), False)
        self.assertIs(is_between(2, (), (), None), False)
        for value in [(True,), [1], (1, 1, -1), (2, -2), (3,), 1, "1", [], {}, "", (0,)]:
            self.assertIs(is_between(2, (1,), (1,), value), False)
            self.assertIs(is_between(2, (), (), value), False)
        self.assert_judges_strange(is_between, (2, (), ()), [(1,)])


def coprimes(number):
    """How many integers from 1 to the number have no common divisor with it."""
    return sum(math.gcd(other, number) == 1 for other in range(1, number + 1))


def told_number(letters, length):
    """The number of rings as the document tells it."""
    def cores(size):
        return (2 * letters - 1) ** size + 1 + (letters - 1) * (1 + (-1) ** size)
    divisors = [part for part in range(1, length + 1) if length % part == 0]
    return sum(coprimes(part) * cores(length // part) for part in divisors) // length


class Lists(WrongInputs):
    def test_all_rings_of_a_length_ascending(self):
        for letters, most in [(1, 6), (2, 6), (3, 5), (4, 4), (5, 3)]:
            for length in range(most + 1):
                found = {min(brute.rotations(brute.core_of(word))) for word in brute.words(letters, length)}
                told = sorted(row for row in found if len(row) == length)
                self.assertEqual(list(rings_of(letters, length)), told)

    def test_many_rings(self):
        found = list(rings_of(4, 6))
        self.assertEqual(len(found), ring_number(4, 6))
        self.assertEqual(found, sorted(set(found)))
        self.assertTrue(all(is_ring(4, row) and len(row) == 6 for row in found))

    def test_the_empty_ring(self):
        self.assertEqual(list(rings_of(3, 0)), [()])

    def test_errors_come_with_the_first_element(self):
        for letters, length in [(0, 2), (2, 7), (True, True), (None, -1), (6, 7)]:
            found = rings_of(letters, length)
            wrong = length if letters == 2 else letters
            self.assert_raises_with(InvalidNumber, "given", wrong, next, found)

    def test_wrong_inputs(self):
        def listed(letters, length):
            return list(rings_of(letters, length))
        length = (InvalidNumber, "given", integers_but(0, 6))
        self.assert_refuses(listed, (2, 2), [LETTERS, length])


class Numbers(WrongInputs):
    def test_numbers_of_short_rings_and_cores(self):
        for letters, most in [(1, 6), (2, 6), (3, 5), (4, 4), (5, 3)]:
            for length in range(most + 1):
                cores = [word for word in brute.words(letters, length) if brute.core_of(word) == word]
                number = ring_number(letters, length)
                self.assertEqual((type(number), number), (int, len({min(brute.rotations(word)) for word in cores})))
                if length:
                    told = (2 * letters - 1) ** length + 1 + (letters - 1) * (1 + (-1) ** length)
                    self.assertEqual(len(cores), told)

    def test_number_by_the_formula(self):
        for letters in range(1, 6):
            self.assertEqual(ring_number(letters, 0), 1)
            for length in list(range(1, 40)) + [64, 97, 120, 180, 199, 200]:
                self.assertEqual(ring_number(letters, length), told_number(letters, length))

    def test_wrong_inputs(self):
        length = (InvalidNumber, "given", integers_but(0, 200))
        self.assert_refuses(ring_number, (2, 2), [LETTERS, length])
