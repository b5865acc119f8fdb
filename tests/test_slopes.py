"""Promises [5.1] to [5.7]: sums of words, slopes, tables of sums and those that undo slope tables."""

import itertools
import unittest

import brute
import drawn
from noroadback.base.lots import do_make_all
from noroadback.errors import InvalidNumber, InvalidOperation, InvalidSum, InvalidTable, InvalidTurner, InvalidWord, TooMany
from noroadback.turns import slopes as module
from noroadback.turns.slopes import Sum, is_undone_slopes, slope, slope_table, sums_product, undone_slopes
from noroadback.turns.turners import Turner, table_determinant, table_of
from wrong import HUGE, LETTERS, STRANGE, TURNER, WORD, WORDS, WrongInputs, integers_but

GROW, THREE, PLAIN = Turner(((1, 2), (1,))), Turner(((2,), (3,), (1, 2))), Turner(((1,), (2, 1)))
# 2 is led to 2 and then 199 times 1.
TALL = Turner(((1,), (2,) + (1,) * 199))
A, B, ONE, NONE = Sum.word(2, (1,)), Sum.word(2, (2,)), Sum.word(2, ()), Sum(2, {})
WRONG_TERMS = [value for value in STRANGE if type(value) is not dict] + [
    {1: 1}, {None: 1}, {"1": 1}, {True: 1}, {(1, -1): 1}, {(3,): 1}, {(True,): 1}, {(0,): 1}, {(None,): 1}, {((1,),): 1},
    {(1,): True}, {(1,): None}, {(1,): "1"}, {(1,): (1,)}, {(1,): [1]}, {(1,): {}}, {(1,): False}, {(1,): 10 ** 60},
    {(1,): -10 ** 60}, {(1,): HUGE}, {(): 1, (1,): True}, {(): 1, (2, -2): 1}, {(1,) * 201: 1}, {(HUGE,): 1}, {"a": {"b": 1}},
    [((1,), 1)], (((1,), 1),), {(1,): 1, 2: 1}, {(1,): ONE}, {(1, "2"): 1},
]
WRONG_SUMS = STRANGE + [
    ONE, (), ((),), (ONE,), [(ONE,)], ([ONE],), ((ONE, 1),), ((ONE, None),), ((1,),), ((ONE,), (ONE, ONE)), ((ONE,), ()),
    ((ONE,), [ONE]), ((ONE,), None), ((ONE, Sum(3, {})),), ((ONE,), (Sum(1, {}),)), ((ONE,) * 7,), ((ONE,),) * 7, ((GROW,),),
    (((ONE,),),), ((ONE, {}),),
]


def drawn_sums(seed, many, letters=None, number=5, most=5):
    """Sums of drawn terms."""
    rng = drawn.dice(seed)
    for place in range(many):
        places = letters or 1 + place % 5
        yield Sum(places, drawn.terms(rng, places, number, most))


def plain(terms):
    """Terms without zeros."""
    return {word: many for word, many in terms.items() if many}


def added(one, other, sign=1):
    """The terms of a sum of sums."""
    return plain({word: one.get(word, 0) + sign * other.get(word, 0) for word in {**one, **other}})


def times(one, other):
    """The terms of a product of sums."""
    found = {}
    for (first, many), (second, number) in itertools.product(one.items(), other.items()):
        word = brute.shrunk(first + second)
        found[word] = found.get(word, 0) + many * number
    return plain(found)


def slope_by_rules(word, letter):
    """The terms of a slope, by the rule for products of the first entry and the rest."""
    if word == ():
        return {}
    first = {}
    if abs(word[0]) == letter:
        first = {(): 1} if word[0] > 0 else {(word[0],): -1}
    return added(first, times({word[:1]: 1}, slope_by_rules(word[1:], letter)))


def table_times(one, other):
    """The terms of a product of tables of terms."""
    table = []
    for row in one:
        table.append([])
        for column in zip(*other):
            total = {}
            for first, second in zip(row, column):
                total = added(total, times(first, second))
            table[-1].append(total)
    return table


def terms_in(table):
    """The terms of all sums in a table."""
    return [[entry.terms for entry in row] for row in table]


def unit(size):
    """The terms of the unit table."""
    return [[{(): 1} if row == column else {} for column in range(size)] for row in range(size)]


class Constants(unittest.TestCase):
    def test_constants(self):
        self.assertEqual([module.MAX_TERMS, module.MAX_PAIRS, module.MAX_LED], [200, 4000, 20000])


class Making(WrongInputs):
    def test_terms_are_kept_with_ascending_words_and_without_zeros(self):
        rng = drawn.dice(1)
        for letters in range(1, 6):
            for _ in range(10):
                terms = {**drawn.terms(rng, letters, 6, 4), drawn.word(rng, letters, 3): 0}
                found = Sum(letters, terms)
                self.assertEqual((found.letters, found.terms), (letters, plain(terms)))
                self.assertEqual(list(found.terms), sorted(plain(terms)))
                turned_round = {word: terms[word] for word in list(terms)[::-1]}
                self.assertTrue(Sum(letters, turned_round) == found)
                self.assertEqual(list(Sum(letters, turned_round)), list(found))

    def test_sums_share_no_terms(self):
        terms = {(1,): 2, (2,): 3}
        found = Sum(2, terms)
        terms[(1,)] = 5
        found.terms[(2,)] = 7
        found.terms.clear()
        self.assertEqual(found.terms, {(1,): 2, (2,): 3})
        self.assertEqual((len(found), list(found), found.total()), (2, [((1,), 2), ((2,), 3)], 5))

    def test_200_terms_and_201(self):
        words = brute.words(3, 4)
        self.assertEqual(len(Sum(3, {word: 1 for word in words[:200]})), 200)
        for many in (1, 0):
            terms = {word: many for word in words[:201]}
            self.assert_raises_with(InvalidSum, None, None, Sum, 3, terms)

    def test_words_of_200_entries_and_integers_of_sixty_digits(self):
        high = 10 ** 60 - 1
        terms = {(1,) * 200: high, (-2,) * 200: -high}
        self.assertEqual(Sum(2, terms).terms, terms)
        self.assertEqual(Sum(2, {(1,): 0}).terms, {})

    def test_words_once(self):
        for letters in range(1, 6):
            for word in [(), (letters,), (-1,) * 200]:
                self.assertEqual((Sum.word(letters, word).letters, Sum.word(letters, word).terms), (letters, {word: 1}))
        self.assertIs(type(Sum.word(2, ())), Sum)

    def test_wrong_inputs(self):
        self.assert_refuses(Sum, (2, {(1,): 1}), [LETTERS, (InvalidSum, None, WRONG_TERMS)])
        self.assert_refuses(Sum.word, (2, (1,)), [LETTERS, WORD])


class Adding(WrongInputs):
    def test_sums_differences_and_products(self):
        for letters in range(1, 6):
            for one, other in zip(drawn_sums(2, 10, letters), drawn_sums(3, 10, letters)):
                self.assertEqual((one + other).terms, added(one.terms, other.terms))
                self.assertEqual((one - other).terms, added(one.terms, other.terms, -1))
                self.assertEqual((one * other).terms, times(one.terms, other.terms))
                for found in (one + other, one - other, one * other):
                    self.assertEqual((type(found), found.letters, list(found.terms)), (Sum, letters, sorted(found.terms)))

    def test_terms_that_add_up_to_nothing_go(self):
        self.assertEqual([(A - A).terms, (A * B - A * B).terms, ((A - ONE) * NONE).terms, (A + NONE - A).terms], [{}] * 4)
        self.assertEqual(((ONE - A) * (ONE + A)).terms, {(): 1, (1, 1): -1})

    def test_rules_of_sums(self):
        for one, other, third in zip(drawn_sums(4, 8, 2), drawn_sums(5, 8, 2), drawn_sums(6, 8, 2)):
            self.assertEqual((one * other) * third, one * (other * third))
            self.assertEqual(one * (other + third), one * other + one * third)
            self.assertEqual((one + other) * third, one * third + other * third)
            self.assertEqual(ONE * one, one * ONE)

    def test_operands_are_not_changed(self):
        one, other = Sum(2, {(1,): 1, (): 2}), Sum(2, {(1,): -1, (2,): 2})
        for call in (lambda: one + other, lambda: one - other, lambda: one * other, lambda: other.led(GROW)):
            call()
            self.assertEqual((one.terms, other.terms), ({(): 2, (1,): 1}, {(1,): -1, (2,): 2}))

    def test_returned_sums_can_be_long(self):
        rng = drawn.dice(7)
        one = Sum(5, {word: 10 ** 59 for word in brute.words(5, 3)[:200]})
        other = Sum(5, {word: 10 ** 59 for word in brute.words(5, 3)[300:500]})
        both = one + other
        self.assertEqual(len(both), 400)
        self.assertEqual((both * Sum(5, {(): 10 ** 59})).terms[brute.words(5, 3)[0]], 10 ** 118)
        long = Sum.word(2, (1,) * 200) * Sum.word(2, (2,) * 200)
        self.assertEqual((long * long).terms, {((1,) * 200 + (2,) * 200) * 2: 1})
        self.assertEqual((long + A - long), A)
        self.assert_raises_with(InvalidSum, None, None, Sum, 5, both.terms)
        self.assert_raises_with(InvalidSum, None, None, Sum, 2, long.terms)
        self.assertEqual(len(slope_table(2, (drawn.word(rng, 2, 50),))), 1)

    def test_4000_pairs_and_more(self):
        words = brute.words(5, 3)
        one = Sum(5, {word: 1 for word in words[:200]})
        other = Sum(5, {word: 1 for word in words[200:220]})
        self.assertEqual((one * other).total(), 4000)
        self.assertEqual((other * one).total(), 4000)
        more = other + Sum.word(5, ())
        for call in (lambda: one * more, lambda: more * one):
            with self.assertRaises(TooMany) as caught:
                call()
            self.assertEqual(caught.exception.most, 4000)
        self.assertEqual(one * Sum(5, {}), Sum(5, {}))

    def test_unlike_letters(self):
        for other in (Sum.word(3, (1,)), Sum(1, {}), Sum(5, {})):
            for call in (lambda: A + other, lambda: A - other, lambda: A * other, lambda: other + A, lambda: other * A):
                self.assert_raises_with(InvalidSum, None, None, call)
        # Sums of unlike letters are refused ahead of too many pairs.
        words = brute.words(5, 3)
        one, other = Sum(5, {word: 1 for word in words[:200]}), Sum(1, {(1,) * many: 1 for many in range(200)})
        self.assert_raises_with(InvalidSum, None, None, lambda: one * other)

    def test_operands_of_another_kind(self):
        for value in STRANGE + [2, 0, {(1,): 1}, GROW]:
            if isinstance(value, Sum):
                continue
            for call in (lambda: A + value, lambda: A - value, lambda: A * value, lambda: value + A, lambda: value - A,
                         lambda: value * A):
                with self.assertRaises(TypeError):
                    call()
        for call in (lambda: -A, lambda: A ** 2, lambda: A < B, lambda: A[0], lambda: A // B):
            with self.assertRaises(TypeError):
                call()


class Looking(unittest.TestCase):
    def test_totals(self):
        for found in drawn_sums(8, 20):
            self.assertEqual(found.total(), sum(found.terms.values()))
        self.assertEqual([NONE.total(), ONE.total(), (A - B).total()], [0, 1, 0])

    def test_numbers_truth_and_pairs(self):
        for found in drawn_sums(9, 20):
            self.assertEqual((len(found), bool(found)), (len(found.terms), found.terms != {}))
            self.assertEqual(list(found), sorted(found.terms.items()))
            self.assertEqual(list(found), list(found))
        self.assertEqual((len(NONE), bool(NONE), list(NONE)), (0, False, []))
        self.assertIs(bool(A - B), True)

    def test_equal_sums(self):
        for found in drawn_sums(10, 20):
            self.assertTrue(Sum(found.letters, found.terms) == found)
            self.assertFalse(Sum(found.letters, found.terms) != found)
            self.assertTrue(found + Sum.word(found.letters, ()) != found)
        self.assertFalse(Sum(2, {}) == Sum(3, {}))
        self.assertFalse(Sum.word(2, (1,)) == Sum.word(3, (1,)))
        self.assertFalse(A == Sum(2, {(1,): 2}))

    def test_other_values(self):
        for value in STRANGE + [0, {(1,): 1}, [((1,), 1)], GROW]:
            if not isinstance(value, Sum):
                self.assertIs(A == value, False)
                self.assertIs(value == A, False)
                self.assertIs(A != value, True)
                self.assertIs(NONE == value, False)

    def test_properties_cannot_be_changed(self):
        for name in ("letters", "terms"):
            with self.assertRaises(AttributeError):
                setattr(A, name, {})


class Led(WrongInputs):
    def test_sums_are_led_word_by_word(self):
        for letters in range(1, 6):
            for found, turner in zip(drawn_sums(11, 8, letters), drawn.turners(12, 8, letters=letters)):
                told = {turner(word): many for word, many in found.terms.items()}
                self.assertEqual((found.led(turner).letters, found.led(turner).terms), (letters, told))
                self.assertEqual(list(found.led(turner)), sorted(told.items()))

    def test_products_are_led_to_products(self):
        for one, other, turner in zip(drawn_sums(13, 8, 3), drawn_sums(14, 8, 3), drawn.turners(15, 8, letters=3)):
            self.assertEqual((one * other).led(turner), one.led(turner) * other.led(turner))
            self.assertEqual((one + other).led(turner), one.led(turner) + other.led(turner))
            self.assertEqual(one.led(turner).led(turner.undone()), one)

    def test_20000_letters_and_more(self):
        high = TALL.power(20)
        just = Sum(2, {(2,) * 5: 1, (1,) * 95: 1})
        self.assertEqual(high.length - 1, 3981)
        self.assertEqual(just.led(high).terms, {((2,) + (1,) * 3980) * 5: 1, (1,) * 95: 1})
        # Letters that are struck out are counted, too.
        self.assertEqual(Sum(2, {(2, 1, -2, 1, 2): 3, (1,) * 50: 0, (2, 2): 1, (-1,) * 93: 1}).led(high).total(), 5)
        for terms in [{(2,) * 5: 1, (1,) * 96: 1}, {(2, 1, -2, 1, 2): 3, (2, 2): 1, (-1,) * 94: 1}, {(2,) * 6: 1}]:
            with self.assertRaises(TooMany) as caught:
                Sum(2, terms).led(high)
            self.assertEqual(caught.exception.most, 20000)

    def test_wrong_inputs(self):
        self.assert_refuses(A.led, (GROW,), [TURNER])
        for turner in (THREE, Turner.idle(1), Turner.idle(5)):
            self.assert_raises_with(InvalidOperation, None, None, A.led, turner)
        long = Sum(2, {(1,) * many: 1 for many in range(1, 201)})
        self.assertEqual(sum(range(1, 201)), 20100)
        self.assert_raises_with(InvalidOperation, None, None, long.led, THREE)
        self.assert_raises_with(InvalidTurner, None, None, long.led, None)
        self.assert_raises_with(TooMany, None, None, long.led, GROW)


class Slopes(WrongInputs):
    def test_slopes_of_all_short_words(self):
        for word in brute.words_to(2, 5) + brute.words_to(3, 3):
            for letter in (1, 2, 3):
                found = slope(3, word, letter)
                self.assertEqual((type(found), found.letters, found.terms), (Sum, 3, slope_by_rules(word, letter)))

    def test_one_term_for_each_entry(self):
        rng = drawn.dice(16)
        for letters in range(1, 6):
            for _ in range(5):
                word = drawn.word(rng, letters, 200)
                for letter in range(1, letters + 1):
                    told = {word[:place]: 1 for place, entry in enumerate(word) if entry == letter}
                    told.update({word[:place + 1]: -1 for place, entry in enumerate(word) if entry == -letter})
                    self.assertEqual(slope(letters, word, letter).terms, told)

    def test_sum_rule(self):
        rng = drawn.dice(17)
        for letters in range(1, 6):
            for _ in range(8):
                word = drawn.word(rng, letters, 12)
                total = Sum(letters, {})
                one = Sum.word(letters, ())
                for letter in range(1, letters + 1):
                    total = total + slope(letters, word, letter) * (Sum.word(letters, (letter,)) - one)
                self.assertEqual(Sum.word(letters, word) - one, total)

    def test_product_rule(self):
        rng = drawn.dice(18)
        for _ in range(20):
            one, other = drawn.word(rng, 3, 8), drawn.word(rng, 3, 8)
            both = brute.times(one, other)
            for letter in (1, 2, 3):
                told = slope(3, one, letter) + Sum.word(3, one) * slope(3, other, letter)
                self.assertEqual(slope(3, both, letter), told)

    def test_chain_rule(self):
        rng = drawn.dice(19)
        for turner in drawn.turners(20, 15, most=6):
            letters = turner.letters
            word = drawn.word(rng, letters, 6)
            for letter in range(1, letters + 1):
                total = Sum(letters, {})
                for inner in range(1, letters + 1):
                    total = total + slope(letters, word, inner).led(turner) * slope(letters, turner((inner,)), letter)
                self.assertEqual(slope(letters, turner(word), letter), total)

    def test_totals_add_up_signs(self):
        rng = drawn.dice(21)
        for letters in range(1, 6):
            word = drawn.word(rng, letters, 60)
            for letter in range(1, letters + 1):
                self.assertEqual(slope(letters, word, letter).total(), word.count(letter) - word.count(-letter))

    def test_totals_of_slope_tables(self):
        for turner in drawn.turners(22, 15):
            table = slope_table(turner.letters, turner.images)
            self.assertEqual(tuple(tuple(entry.total() for entry in row) for row in table), table_of(turner))

    def test_long_words(self):
        self.assertEqual(slope(2, (1, 2) * 100, 2).terms, {(1, 2) * many + (1,): 1 for many in range(100)})
        self.assertEqual(slope(1, (-1,) * 200, 1).terms, {(-1,) * many: -1 for many in range(1, 201)})

    def test_wrong_inputs(self):
        letter = (InvalidNumber, "given", integers_but(1, 2))
        self.assert_refuses(slope, (2, (1, 2), 1), [LETTERS, WORD, letter])
        for letters in range(1, 6):
            self.assertEqual(slope(letters, (letters,), letters), Sum.word(letters, ()))
            self.assert_raises_with(InvalidNumber, "given", letters + 1, slope, letters, (letters,), letters + 1)


class SlopeTables(WrongInputs):
    def test_rows_for_words_and_columns_for_letters(self):
        rng = drawn.dice(23)
        for letters in range(1, 6):
            for number in range(1, 7):
                words = tuple(drawn.word(rng, letters, 5) for _ in range(number))
                table = slope_table(letters, words)
                self.assertEqual((type(table), len(table), {type(row) for row in table}), (tuple, number, {tuple}))
                told = [[slope_by_rules(word, letter) for letter in range(1, letters + 1)] for word in words]
                self.assertEqual(terms_in(table), told)

    def test_wrong_inputs(self):
        self.assert_refuses(slope_table, (2, ((1,), (2,))), [LETTERS, WORDS])
        self.assert_raises_with(InvalidWord, None, None, slope_table, 2, ())
        self.assert_raises_with(InvalidWord, None, None, slope_table, 2, ((1,),) * 7)
        self.assertEqual(len(slope_table(2, ((1,),) * 6)), 6)


class TableProducts(WrongInputs):
    def test_products_row_by_column(self):
        rng = drawn.dice(24)
        for number in range(12):
            letters, rows, inner, columns = 1 + number % 5, rng.randint(1, 6), rng.randint(1, 6), rng.randint(1, 6)
            one = tuple(tuple(drawn_sums(rng.random(), inner, letters, 3, 3)) for _ in range(rows))
            other = tuple(tuple(drawn_sums(rng.random(), columns, letters, 3, 3)) for _ in range(inner))
            found = sums_product(one, other)
            self.assertEqual((type(found), len(found), {type(row) for row in found}), (tuple, rows, {tuple}))
            self.assertEqual(terms_in(found), table_times(terms_in(one), terms_in(other)))
            self.assertEqual({entry.letters for row in found for entry in row}, {letters})
            self.assertTrue(all(list(entry.terms) == sorted(entry.terms) for row in found for entry in row))

    def test_one_to_six_rows_and_columns(self):
        for rows, columns in itertools.product((1, 6), repeat=2):
            found = sums_product(((A,) * 6,) * rows, ((B,) * columns,) * 6)
            self.assertEqual(terms_in(found), [[{(1, 2): 6}] * columns] * rows)
        for one in (((A,) * 7,), ((A,),) * 7, ((),), ()):
            self.assert_raises_with(InvalidTable, None, None, sums_product, one, ((A,),))
            self.assert_raises_with(InvalidTable, None, None, sums_product, ((A,),), one)

    def test_unlike_sizes_and_letters(self):
        other = Sum.word(3, (1,))
        for one, second in [(((A, B),), ((A, B),)), (((A,), (B,)), ((A,), (B,))), (((A,),), ((other,),)),
                            (((other,),), ((A,),)), (((A, A),), ((other,), (other,)))]:
            self.assert_raises_with(InvalidOperation, None, None, sums_product, one, second)

    def test_4000_pairs_and_more(self):
        words = brute.words(5, 3)
        many, twenty = Sum(5, {word: 1 for word in words[:200]}), Sum(5, {word: 1 for word in words[200:220]})
        none, more = Sum(5, {}), twenty + Sum.word(5, ())
        self.assertEqual(sums_product(((many, twenty),), ((twenty,), (many,)))[0][0].total(), 8000)
        # Long sums that do not meet raise nothing.
        self.assertEqual(sums_product(((many, none),), ((none,), (many,)))[0][0].total(), 0)
        for one, other in [(((many,),), ((more,),)), (((none, many),), ((many,), (more,))),
                           (((none,), (many,)), ((none, more),)), (((more, none),), ((many, none), (none, none)))]:
            with self.assertRaises(TooMany) as caught:
                sums_product(one, other)
            self.assertEqual(caught.exception.most, 4000)
        self.assert_raises_with(InvalidOperation, None, None, sums_product, ((many, many),), ((more,),))

    def test_wrong_inputs(self):
        table = (InvalidTable, None, WRONG_SUMS)
        self.assert_refuses(sums_product, (((A,),), ((B,),)), [table, table])
        for value in WRONG_SUMS[:5]:
            self.assert_raises_with(InvalidTable, None, None, sums_product, value, ((Sum(3, {}),) * 2,))


class UndoneSlopes(WrongInputs):
    def assert_undone(self, letters, words):
        table = undone_slopes(letters, words)
        slopes = [[slope_by_rules(word, letter) for letter in range(1, letters + 1)] for word in words]
        self.assertEqual((type(table), len(table), {type(row) for row in table}), (tuple, letters, {tuple}))
        self.assertEqual(table_times(terms_in(table), slopes), unit(letters))
        self.assertEqual(table_times(slopes, terms_in(table)), unit(letters))
        self.assertIs(is_undone_slopes(letters, words, table), True)
        self.assertTrue(all(entry.letters == letters for row in table for entry in row))
        return table

    def test_all_short_pairs_of_words(self):
        for words in itertools.product(brute.words_to(2, 2), repeat=2):
            if do_make_all(2, words):
                self.assert_undone(2, words)
            else:
                self.assertIsNone(undone_slopes(2, words))

    def test_drawn_turners(self):
        for turner in drawn.turners(25, 25, most=8):
            table = self.assert_undone(turner.letters, turner.images)
            undone = slope_table(turner.letters, turner.undone().images)
            self.assertEqual(table, tuple(tuple(entry.led(turner) for entry in row) for row in undone))

    def test_words_that_do_not_make_all(self):
        for words in [((1, 1), (2,)), ((1,), (1,)), ((), (2,)), ((1, 2, 1, -2, -1), (2,))]:
            self.assertIsNone(undone_slopes(2, words))
            self.assertIs(is_undone_slopes(2, words, None), False)
            self.assertIs(is_undone_slopes(2, words, slope_table(2, words)), False)
        self.assertIsNone(undone_slopes(1, ((1,) * 200,)))

    def test_totals_with_the_determinant_1_are_not_enough(self):
        words = ((1, 2, 1, -2, -1), (2,))
        totals = tuple(tuple(entry.total() for entry in row) for row in slope_table(2, words))
        self.assertEqual((table_determinant(totals), do_make_all(2, words)), (1, False))

    def test_words_with_equal_totals_can_be_unlike(self):
        one, other = ((1, 2, -1, -2),), ((),)
        totals = [[entry.total() for entry in slope_table(2, words)[0]] for words in (one, other)]
        self.assertEqual(totals, [[0, 0], [0, 0]])

    def test_other_tables(self):
        table = undone_slopes(2, GROW.images)
        self.assertIs(is_undone_slopes(2, GROW.images, table), True)
        copy = tuple(tuple(Sum(2, entry.terms) for entry in row) for row in table)
        self.assertIs(is_undone_slopes(2, GROW.images, copy), True)
        wrong = [
            None, [list(row) for row in table], [*table], tuple(list(row) for row in table), table[::-1], table[:1], table + table,
            terms_in(table), tuple(row[:1] for row in table), tuple(row[::-1] for row in table), (table,), True, (),
            tuple(tuple(Sum(3, entry.terms) for entry in row) for row in table),
            tuple(tuple(entry.terms for entry in row) for row in table), ((table[0][0] + ONE, table[0][1]), table[1]),
            slope_table(2, GROW.undone().images), (table[0], (table[1][0], None)), (table[0], table[1] + (NONE,)),
        ]
        for value in wrong:
            self.assertIs(is_undone_slopes(2, GROW.images, value), False)
        self.assert_judges_strange(is_undone_slopes, (2, GROW.images), [])
        self.assert_judges_strange(is_undone_slopes, (2, ((1,), (1,))), [])

    def test_long_words(self):
        table = undone_slopes(2, TALL.images)
        self.assertEqual(terms_in(table)[0], [{(): 1}, {}])
        self.assertEqual(terms_in(table)[1][1], {(): 1})
        self.assertEqual(terms_in(table)[1][0], {(2,) + (1,) * many: -1 for many in range(199)})
        words = ((1,), (2,) + (1,) * 99, (3,) + (2,) * 99)
        found = undone_slopes(3, words)
        self.assertEqual(sums_product(slope_table(3, words), found[:1] + ((Sum(3, {}),) * 3,) * 2)[0][0].terms, {(): 1})
        self.assertEqual(sum(len(entry) for entry in found[2]), 1 + 99 * 100)

    def test_too_long_undoing_turners(self):
        words = ((1,), (2,) + (1,) * 199, (3,) + (2,) * 199)
        for call, more in [(undone_slopes, ()), (is_undone_slopes, (None,))]:
            with self.assertRaises(TooMany) as caught:
                call(3, words, *more)
            self.assertEqual(caught.exception.most, 40000)
            call(3, words[:2] + ((3, 3) + (2,) * 198,), *more)

    def test_wrong_inputs(self):
        self.assert_refuses(undone_slopes, (2, GROW.images), [LETTERS, WORDS])
        self.assert_refuses(is_undone_slopes, (2, GROW.images, None), [LETTERS, WORDS, None])
        for call, more in [(undone_slopes, ()), (is_undone_slopes, (None,))]:
            for words in [((1,),), ((1,), (2,), (1, 2)), ((1,),) * 6, ((),)]:
                self.assert_raises_with(InvalidOperation, None, None, call, 2, words, *more)
            self.assert_raises_with(InvalidWord, None, None, call, 2, (), *more)
            self.assert_raises_with(InvalidWord, None, None, call, 2, ((1,),) * 7, *more)
