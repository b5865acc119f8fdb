"""Promises [0.1] and [0.7] for fractions: integers of sixty digits, comparing, texts."""

import fractions
import itertools

from noroadback.base.fractions import compare, fraction, fraction_text, is_fraction
from noroadback.errors import InvalidNumber
from wrong import STRANGE, WRONG_INTEGERS, WrongInputs

LONGEST = 10 ** 60 - 1
SHORTEST_LONG = 10 ** 60
LONG = [SHORTEST_LONG, -SHORTEST_LONG, 10 ** 99, -10 ** 99]
WRONG_FRACTIONS = STRANGE + [
    0, 1, (), (1,), (1, 2, 3), (2, 4), (0, 2), (-2, 2), (1, 0), (0, 0), (1, -2), (-1, -2), (0, -1), [1, 2], (True, 2),
    (1, True), (False, 1), (None, 1), (1, None), ("1", 2), ((1,), 2), (1, [2]), "1/2", {1: 2},
    (SHORTEST_LONG, 1), (-SHORTEST_LONG, 1), (1, SHORTEST_LONG), (SHORTEST_LONG, SHORTEST_LONG + 1),
]
FRACTION = (InvalidNumber, "given", WRONG_FRACTIONS)
SMALL = [fraction(top, bottom) for top in range(-6, 7) for bottom in range(1, 6)]


class Fraction(WrongInputs):
    def test_small_fractions(self):
        for top, bottom in itertools.product(range(-12, 13), repeat=2):
            if bottom:
                told = fractions.Fraction(top, bottom)
                self.assertEqual(fraction(top, bottom), (told.numerator, told.denominator))

    def test_result_is_a_pair_of_integers(self):
        for top, bottom in [(0, -5), (3, 1), (4, 2), (-4, -2)]:
            found = fraction(top, bottom)
            self.assertEqual([type(found), type(found[0]), type(found[1])], [tuple, int, int])

    def test_integers_of_sixty_digits(self):
        self.assertEqual(fraction(LONGEST, -LONGEST), (-1, 1))
        self.assertEqual(fraction(-LONGEST, LONGEST - 1), (-LONGEST, LONGEST - 1))
        self.assertEqual(fraction(0, -LONGEST), (0, 1))

    def test_wrong_inputs(self):
        top = (InvalidNumber, "given", WRONG_INTEGERS + LONG)
        bottom = (InvalidNumber, "given", WRONG_INTEGERS + LONG + [0])
        self.assert_refuses(fraction, (1, 2), [top, bottom])
        self.assert_raises_with(InvalidNumber, "given", SHORTEST_LONG, fraction, SHORTEST_LONG, 0)


class IsFraction(WrongInputs):
    def test_small_pairs(self):
        for top, bottom in itertools.product(range(-12, 13), repeat=2):
            told = bottom > 0 and fractions.Fraction(top, bottom).denominator == bottom
            self.assertIs(is_fraction((top, bottom)), told)

    def test_integers_of_any_length(self):
        for number in [LONGEST, SHORTEST_LONG, 10 ** 99, 10 ** 5000]:
            for value in [(number, 1), (-number, 1), (1, number), (-1, number), (number, number + 1)]:
                self.assertIs(is_fraction(value), True)
            for value in [(number, number), (2 * number, 2), (0, number), (number, 0), (1, -number)]:
                self.assertIs(is_fraction(value), False)

    def test_what_is_no_fraction(self):
        self.assert_judges_strange(is_fraction, (), [])
        for value in WRONG_FRACTIONS[:-4]:
            self.assertIs(is_fraction(value), False)


class Compare(WrongInputs):
    def test_small_fractions(self):
        for one, other in itertools.product(SMALL, repeat=2):
            first, second = fractions.Fraction(*one), fractions.Fraction(*other)
            found = compare(one, other)
            self.assertEqual((type(found), found), (int, (first > second) - (first < second)))

    def test_long_fractions_are_compared_exactly(self):
        below, above = (LONGEST - 2, LONGEST - 1), (LONGEST - 1, LONGEST)
        self.assertEqual([compare(below, above), compare(above, below), compare(above, above)], [-1, 1, 0])

    def test_wrong_inputs(self):
        self.assert_refuses(compare, ((1, 2), (2, 3)), [FRACTION, FRACTION])


class FractionText(WrongInputs):
    def test_texts(self):
        texts = [fraction_text(one) for one in [(-3, 2), (2, 1), (0, 1), (-7, 1), (1, 10), (-1, 3), (10, 3)]]
        self.assertEqual(texts, ["-3/2", "2", "0", "-7", "1/10", "-1/3", "10/3"])

    def test_texts_of_small_fractions(self):
        for one in SMALL:
            self.assertEqual(fraction_text(one), str(fractions.Fraction(*one)))

    def test_sixty_digits(self):
        self.assertEqual(fraction_text((-LONGEST, 1)), "-" + "9" * 60)
        self.assertEqual(fraction_text((LONGEST - 1, LONGEST)), "9" * 59 + "8/" + "9" * 60)

    def test_wrong_inputs(self):
        self.assert_refuses(fraction_text, ((1, 2),), [FRACTION])
