"""Promises [0.1] to [0.6], where no test of one function alone tells them."""

import inspect
import unittest

from noroadback.base import fractions, rings, words
from noroadback.errors import InvalidNumber, InvalidWord
from wrong import STRANGE

PARAMETERS = {
    words.is_word: "letters value", words.bare: "letters row", words.product: "letters *words",
    words.contrary: "letters word", words.power: "letters word many", words.root: "letters word",
    words.common_root: "letters one other", words.is_common_root: "letters one other value",
    words.words_of: "letters length", words.word_number: "letters length",
    fractions.fraction: "top bottom", fractions.is_fraction: "value", fractions.compare: "one other",
    fractions.fraction_text: "one",
    rings.core: "letters word", rings.ring: "letters word", rings.is_ring: "letters value",
    rings.turned: "letters word by", rings.are_alike: "letters one other", rings.between: "letters one other",
    rings.is_between: "letters one other value", rings.rings_of: "letters length", rings.ring_number: "letters length",
}
RIGHT = {
    "letters": 2, "value": (1, 2), "row": (1, -1, 2), "*words": (2, 2), "word": (1, 2, -1), "many": 3, "one": (1, 2),
    "other": (2, 1), "length": 3, "top": 4, "bottom": -6, "by": (2,),
}
JUDGES = [(words.is_word, (2,)), (words.is_common_root, (2, (1,), (1,))), (fractions.is_fraction, ()),
          (rings.is_ring, (2,)), (rings.is_between, (2, (1,), (1,)))]


def right_arguments(call):
    """Arguments that raise nothing, by the names of the parameters."""
    return [RIGHT[name] for name in PARAMETERS[call].split()]


class Interface(unittest.TestCase):
    def test_functions_stand_in_their_files_with_their_parameters(self):
        for call, told in PARAMETERS.items():
            found = [str(parameter) for parameter in inspect.signature(call).parameters.values()]
            self.assertEqual(found, told.split())
            self.assertIn(call.__module__, ["noroadback.base.words", "noroadback.base.fractions", "noroadback.base.rings"])

    def test_lists_are_generators(self):
        for call in (words.words_of, rings.rings_of):
            self.assertTrue(inspect.isgenerator(call(2, 2)))
            self.assertTrue(inspect.isgenerator(call(None, None)))


class Calls(unittest.TestCase):
    def test_equal_calls_return_equal_results(self):
        for call in PARAMETERS:
            found = [call(*right_arguments(call)) for _ in range(3)]
            if inspect.isgenerator(found[0]):
                found = [list(one) for one in found]
            self.assertEqual(found[0], found[1])
            self.assertEqual(found[0], found[2])

    def test_rows_that_are_returned_are_tuples(self):
        found = [
            words.bare(2, (1,)), words.product(2), words.contrary(2, (1,)), words.power(2, (1,), 2), words.root(2, (1,)),
            words.common_root(2, (1,), (1,)), words.common_root(2, (1,), (2,)), fractions.fraction(1, 2),
            rings.core(2, (1,)), rings.ring(2, (1,)), rings.turned(2, (1,), (2,)), rings.between(2, (1,), (1,)),
        ]
        for one in found:
            self.assertIs(type(one), tuple)
            for inner in one:
                self.assertIn(type(inner), (tuple, int, str))

    def test_lists_that_are_passed_are_refused_and_not_changed(self):
        for call in (words.contrary, words.root, words.bare, rings.core, rings.ring):
            row = [1, 2, -2]
            with self.assertRaises(InvalidWord):
                call(2, row)
            self.assertEqual(row, [1, 2, -2])

    def test_what_an_error_keeps_is_what_was_passed(self):
        row = [1, [2]]
        with self.assertRaises(InvalidNumber) as caught:
            words.is_word(row, ())
        self.assertIs(caught.exception.given, row)
        self.assertEqual(row, [1, [2]])


class Judges(unittest.TestCase):
    def test_answers_are_true_or_false(self):
        for call, ahead in JUDGES:
            for value in STRANGE + [0, 10 ** 5000, (10 ** 5000,), (1, 10 ** 5000), ("root", (), 10 ** 5000, 1)]:
                self.assertIn(type(call(*ahead, value)), (bool,))

    def test_values_are_not_changed(self):
        for call, ahead in JUDGES:
            value = [1, {"a": [2]}]
            self.assertIs(call(*ahead, value), False)
            self.assertEqual(value, [1, {"a": [2]}])

    def test_a_wrong_value_hides_no_other_error(self):
        for call, ahead in JUDGES:
            for place in range(len(ahead)):
                given = list(ahead)
                given[place] = None
                with self.assertRaises(InvalidNumber if place == 0 else InvalidWord):
                    call(*given, None)
