"""Promises [0.11] and [4.1] to [4.6]: turners, their products and powers, what undoes them, and tables."""

import itertools
import unittest

import brute
import drawn
from noroadback.base.lots import do_make_all
from noroadback.errors import InvalidNumber, InvalidOperation, InvalidTable, InvalidTurner, InvalidWord, TooMany
from noroadback.turns import turners as module
from noroadback.turns.moves import made_by
from noroadback.turns.slopes import Sum
from noroadback.turns.turners import Turner, table_determinant, table_of, table_product
from wrong import HUGE, LETTERS, STRANGE, TURNER, WRONG_MOVES, WRONG_WORDS, WrongInputs, integers_but

GROW, THREE, PLAIN = Turner(((1, 2), (1,))), Turner(((2,), (3,), (1, 2))), Turner(((1,), (2, 1)))
# 2 is led to 2 and then 199 times 1.
TALL = Turner(((1,), (2,) + (1,) * 199))
WRONG_IMAGES = [value for value in STRANGE if value != ((1,),)] + [
    (), [(1,)], ((1, 2), [1]), [(1, 2), (1,)], ((1, 2), None), ((1, 2), (True,)), ((1, 2), 1), ((1, 2), ("1",)),
    ((1, 1), (2,)), ((1,), (1,)), ((1,), ()), ((1, 2), (2, 1)), ((1,), (2,), (4,)), ((1,), (3,)), ((1,), (2, -2)),
    ((1, 2, -2), (2,)), ((1,), (2,), (3,), (4,), (5,), (6,)), ((1,), (2,) + (1,) * 200), ((1,),) * 2, ((-1, -1),), ((2,),),
    ((1, 2), (2, 1), (3,)), ((1, 2, 1, -2, -1), (2,)), ((1,), (2,), (1, 2)), ((1,), (2, 1, 2)), ((1,), (2,), (3, 3)),
]
WRONG_TABLES = STRANGE + [
    (), 1, (1,), ((1, 2),), ((1,), (2,)), ((1, 2), (3,)), ((1, 2), [3, 4]), [(1, 2), (3, 4)], ((True,),), ((1, 0), (0, True)),
    ((1, 0), (0, None)), ((1, 0), (0, "1")), ((1, 0), (0, (1,))), ((10 ** 60,),), ((1, 0), (0, -10 ** 60)), ((HUGE, 1), (1, 1)),
    ((0,) * 6,) * 6, ((1, 2, 3), (4, 5, 6)), ((1, 2), (3, 4), (5, 6)), ((),), ((1, 2), None),
]
WRONG_TABLES = [value for value in WRONG_TABLES if value not in (((1,),), ((0,),))]


class Constants(unittest.TestCase):
    def test_constants(self):
        self.assertEqual([module.MAX_IMAGE, module.MAX_MADE, module.MOST_POWER], [200, 40000, 20])


class Making(WrongInputs):
    def test_images_that_make_all_and_no_others(self):
        short = brute.words_to(2, 3)
        for images in itertools.product(short, repeat=2):
            ties = brute.web(images)
            if brute.is_in_lot(ties, (1,)) and brute.is_in_lot(ties, (2,)):
                self.assertEqual(Turner(images).images, images)
            else:
                self.assert_raises_with(InvalidTurner, None, None, Turner, images)

    def test_one_letter(self):
        self.assertEqual([Turner(((1,),)).letters, Turner(((-1,),)).images], [1, ((-1,),)])
        for images in [((1, 1),), ((),), ((2,),), ((1,) * 200,)]:
            self.assert_raises_with(InvalidTurner, None, None, Turner, images)

    def test_drawn_images(self):
        rng = drawn.dice(1)
        for letters in range(1, 6):
            for _ in range(20):
                images = drawn.images(rng, letters, 15, 30)
                turner = Turner(images)
                self.assertEqual((turner.letters, turner.images), (letters, images))
                self.assertEqual(turner.length, brute.length(images))
                other = images[:-1] + (drawn.word(rng, letters, 6),)
                if do_make_all(letters, other):
                    self.assertEqual(Turner(other).images, other)
                else:
                    self.assert_raises_with(InvalidTurner, None, None, Turner, other)

    def test_images_of_200_entries_and_201(self):
        self.assertEqual(TALL.length, 201)
        self.assert_raises_with(InvalidTurner, None, None, Turner, ((1,), (2,) + (1,) * 200))

    def test_numbers_of_letters(self):
        for letters in range(1, 6):
            turner = Turner(tuple((-letter,) for letter in range(1, letters + 1)))
            self.assertEqual((turner.letters, turner.length), (letters, letters))
        self.assert_raises_with(InvalidTurner, None, None, Turner, ())
        self.assert_raises_with(InvalidTurner, None, None, Turner, brute.idle(6))

    def test_wrong_inputs(self):
        self.assert_refuses(Turner, (GROW.images,), [(InvalidTurner, None, WRONG_IMAGES)])

    def test_idle(self):
        for letters in range(1, 6):
            idle = Turner.idle(letters)
            self.assertEqual((type(idle), idle.letters, idle.images), (Turner, letters, brute.idle(letters)))
        self.assert_refuses(Turner.idle, (2,), [LETTERS])

    def test_turners_of_all_moves(self):
        for letters in range(1, 6):
            for move in brute.all_moves(letters):
                turner = Turner.of_move(letters, move)
                self.assertEqual((type(turner), turner.images), (Turner, brute.move_images(letters, move)))

    def test_turners_of_wrong_moves(self):
        moves = (InvalidOperation, None, WRONG_MOVES)
        self.assert_refuses(Turner.of_move, (2, ("turn", 1)), [LETTERS, moves])
        for letters in range(1, 6):
            right = set(brute.all_moves(letters))
            for move in brute.all_moves(5):
                if move not in right:
                    self.assert_raises_with(InvalidOperation, None, None, Turner.of_move, letters, move)


class Leading(WrongInputs):
    def test_words_are_led_entry_by_entry(self):
        rng = drawn.dice(2)
        for turner in drawn.turners(3, 30):
            for _ in range(10):
                word = drawn.word(rng, turner.letters, 20)
                self.assertEqual(turner(word), brute.told(turner.images, word))
            self.assertEqual(turner(()), ())

    def test_products_are_led_to_products(self):
        rng = drawn.dice(4)
        for turner in drawn.turners(5, 30):
            one, other = drawn.word(rng, turner.letters, 9), drawn.word(rng, turner.letters, 9)
            self.assertEqual(turner(brute.times(one, other)), brute.times(turner(one), turner(other)))
            self.assertEqual(turner(brute.back(one)), brute.back(turner(one)))

    def test_each_word_comes_of_just_one_word(self):
        for turner in drawn.turners(6, 10, letters=2):
            words = brute.words_to(2, 4)
            self.assertEqual(len({turner(word) for word in words}), len(words))
            for word in words:
                self.assertEqual(turner(turner.undone()(word)), word)

    def test_results_can_have_any_length(self):
        self.assertEqual(TALL((2,) * 200), ((2,) + (1,) * 199) * 200)
        high = TALL.power(20)
        self.assertEqual(high((2,) * 200), ((2,) + (1,) * 3980) * 200)
        self.assertEqual(high((2, -1) * 2), (2,) + (1,) * 3979 + (2,) + (1,) * 3979)

    def test_wrong_inputs(self):
        def led(word):
            return GROW(word)
        self.assert_refuses(led, ((1, 2),), [(InvalidWord, None, WRONG_WORDS)])
        self.assert_raises_with(InvalidWord, None, None, led, TALL((2, 2)))
        self.assertEqual(Turner(((-1,),))((1,) * 200), (-1,) * 200)
        self.assert_raises_with(InvalidWord, None, None, Turner(((-1,),)), (2,))


class Products(WrongInputs):
    def test_products_lead_by_the_second_one_first(self):
        rng = drawn.dice(7)
        for letters in range(1, 6):
            for one, other in zip(drawn.turners(8, 8, letters=letters), drawn.turners(9, 8, letters=letters)):
                made = one * other
                self.assertEqual((type(made), made.images), (Turner, brute.behind(one.images, other.images)))
                word = drawn.word(rng, letters, 9)
                self.assertEqual(made(word), brute.told(one.images, other(word)))

    def test_products_can_be_bracketed_at_will(self):
        for letters in range(1, 6):
            one, other, third = drawn.turners(10 + letters, 3, letters=letters)
            self.assertEqual((one * other) * third, one * (other * third))
            self.assertEqual(Turner.idle(letters) * one, one)
            self.assertEqual(one * Turner.idle(letters), one)

    def test_unlike_numbers_of_letters(self):
        def times(one, other):
            return one * other
        for one, other in [(GROW, THREE), (THREE, GROW), (GROW, Turner.idle(1)), (Turner.idle(5), Turner.idle(4))]:
            self.assert_raises_with(InvalidOperation, None, None, times, one, other)

    def test_operands_of_another_kind(self):
        for value in STRANGE + [2, ((1, 2), (1,)), Sum.word(2, ())]:
            if not isinstance(value, Turner):
                for call in (lambda: GROW * value, lambda: value * GROW):
                    with self.assertRaises(TypeError):
                        call()
        for call in (lambda: GROW + GROW, lambda: GROW - GROW, lambda: -GROW, lambda: GROW ** 2, lambda: GROW < PLAIN):
            with self.assertRaises(TypeError):
                call()

    def test_lengths_up_to_40000(self):
        rest = Turner(((1,), (2,) + (1,) * 198))
        high = TALL.power(20)
        found = high.power(10)
        self.assertEqual(found.length, 39802)
        whole = found * Turner(((1,), (2,) + (1,) * 198))
        self.assertEqual((whole.length, whole.images[1]), (40000, (2,) + (1,) * 39998))
        for call in (lambda: found * TALL, lambda: TALL * found, lambda: whole * PLAIN, lambda: rest * rest * found):
            with self.assertRaises(TooMany) as caught:
                call()
            self.assertEqual(caught.exception.most, 40000)
        self.assertEqual((whole * PLAIN.undone()).length, 39999)
        self.assertEqual((PLAIN.undone() * whole).length, 39999)

    def test_long_products_that_are_short_again(self):
        for turner, many in [(GROW, 17), (THREE, 20), (TALL, 20), (Turner(((1, 2), (3,), (1,))), 20)]:
            high = turner.power(many)
            self.assertEqual(high * high.undone(), Turner.idle(turner.letters))
            self.assertEqual(high.undone() * high, Turner.idle(turner.letters))
            self.assertEqual(high * turner.power(-many + 1), turner)

    def test_products_that_would_be_very_long(self):
        high = GROW.power(20)
        self.assertEqual(high.length, 28657)
        for call in (lambda: high * high, lambda: high * GROW, lambda: GROW * high):
            with self.assertRaises(TooMany) as caught:
                call()
            self.assertEqual(caught.exception.most, 40000)

    def test_a_product_can_be_shorter_than_its_factors(self):
        self.assertEqual((GROW * GROW.undone()).length, 2)


class Undoing(WrongInputs):
    def test_both_products_are_idle(self):
        for turner in list(drawn.turners(20, 60)) + list(drawn.turners(21, 30, most=200)):
            undone = turner.undone()
            self.assertIs(type(undone), Turner)
            self.assertEqual(brute.behind(turner.images, undone.images), brute.idle(turner.letters))
            self.assertEqual(brute.behind(undone.images, turner.images), brute.idle(turner.letters))
            self.assertEqual(undone.undone(), turner)

    def test_all_short_turners_of_two_letters(self):
        for images in itertools.product(brute.words_to(2, 3), repeat=2):
            if do_make_all(2, images):
                undone = Turner(images).undone()
                self.assertEqual(brute.behind(images, undone.images), brute.idle(2))

    def test_what_undoes_a_product(self):
        for letters in range(1, 6):
            one, other = drawn.turners(22 + letters, 2, letters=letters)
            self.assertEqual((one * other).undone(), other.undone() * one.undone())

    def test_lengths_up_to_40000(self):
        images = ((1,), (2,) + (1,) * 198, (3,) + (2,) * 199)
        self.assertEqual(Turner(images).undone().length, 1 + 199 + 1 + 199 * 199)
        longer = Turner(((1,), (2,) + (1,) * 199, (3,) + (2,) * 199))
        for turner in (longer, Turner(longer.images + ((4,) + (3,) * 199,)),
                       Turner(longer.images + ((4,) + (3,) * 199, (5,) + (4,) * 199))):
            self.assert_raises_with(TooMany, None, None, turner.undone)
            with self.assertRaises(TooMany) as caught:
                turner.undone()
            self.assertEqual(caught.exception.most, 40000)
        just = [Turner(images + ((4,) + (1,) * many,)) for many in (197, 198)]
        self.assertEqual(just[0].undone().length, 40000)
        self.assertEqual(just[0].power(-1).length, 40000)
        for call in (just[1].undone, lambda: just[1].power(-1)):
            self.assert_raises_with(TooMany, None, None, call)

    def test_a_turner_and_what_undoes_it_can_have_unlike_lengths(self):
        turner = Turner(((1, 2), (2, 3), (3,)))
        self.assertEqual((turner.length, turner.undone().length), (5, 6))

    def test_long_turners_that_were_made(self):
        long = made_by(2, (("behind", 2, 1),) * 39998)
        self.assertEqual(long.undone().images, ((1,), (2,) + (-1,) * 39998))
        mixed = made_by(3, (("behind", 3, 1), ("behind", 3, 2)) * 19000)
        self.assertEqual(mixed.undone().images[2], (3,) + (-2, -1) * 19000)


class Powers(WrongInputs):
    def test_powers_are_products(self):
        for turner in drawn.turners(30, 20, most=3):
            images, undone = brute.idle(turner.letters), turner.undone().images
            back = images
            for many in range(6):
                self.assertEqual((turner.power(many).images, turner.power(-many).images), (images, back))
                images, back = brute.behind(turner.images, images), brute.behind(undone, back)

    def test_least_and_greatest_exponents(self):
        self.assertEqual(PLAIN.power(20).images, ((1,), (2,) + (1,) * 20))
        self.assertEqual(PLAIN.power(-20).images, ((1,), (2,) + (-1,) * 20))
        for many in (-21, 21):
            self.assert_raises_with(InvalidNumber, "given", many, PLAIN.power, many)
        self.assertEqual(GROW.power(20).length, GROW.power(-20).length)
        self.assertEqual(GROW.power(3).power(-5), GROW.power(-15))

    def test_power_zero_is_idle(self):
        for turner in (GROW, THREE, TALL.power(20), Turner(((-1,),))):
            self.assertEqual(turner.power(0), Turner.idle(turner.letters))

    def test_long_powers(self):
        turner = GROW.power(7)
        self.assertEqual(turner.length, 55)
        self.assert_too_long(turner, [4, 5, 20, -4, -5, -20])
        self.assert_too_long(GROW.power(20), [2, -2])
        self.assertEqual(GROW.power(20).power(1), GROW.power(20))
        self.assertEqual(GROW.power(20).power(-1), GROW.power(-20))

    def assert_too_long(self, turner, exponents):
        for many in exponents:
            with self.assertRaises(TooMany) as caught:
                turner.power(many)
            self.assertEqual(caught.exception.most, 40000)

    def test_powers_where_the_undoing_turner_is_too_long(self):
        turner = Turner(((1,), (2,) + (1,) * 199, (3,) + (2,) * 199))
        self.assertEqual(turner.power(0), Turner.idle(3))
        self.assertEqual(turner.power(1), turner)
        self.assert_too_long(turner, [-1, -2, -20])

    def test_wrong_inputs(self):
        self.assert_refuses(GROW.power, (3,), [(InvalidNumber, "given", integers_but(-20, 20))])


class Comparing(unittest.TestCase):
    def test_equal_turners(self):
        for turner in drawn.turners(40, 10):
            other = Turner(turner.images)
            self.assertTrue(turner == other)
            self.assertFalse(turner != other)
            self.assertTrue(turner * Turner.idle(turner.letters) == turner)
        self.assertFalse(GROW == PLAIN)
        self.assertTrue(GROW != PLAIN)
        self.assertFalse(Turner.idle(2) == Turner.idle(3))

    def test_other_values(self):
        for value in STRANGE + [GROW.images, Sum.word(2, ())]:
            if not isinstance(value, Turner):
                self.assertIs(GROW == value, False)
                self.assertIs(value == GROW, False)
                self.assertIs(GROW != value, True)

    def test_texts(self):
        self.assertEqual(str(GROW), "turner of 2 letters, length 3")
        self.assertEqual(str(Turner.idle(1)), "turner of 1 letters, length 1")
        self.assertEqual(str(GROW.power(20)), "turner of 2 letters, length 28657")

    def test_turners_cannot_be_iterated_over_or_changed(self):
        for call in (iter, list, len, tuple, lambda turner: 1 in turner, lambda turner: turner[0]):
            with self.assertRaises(TypeError):
                call(GROW)
        for name in ("letters", "images", "length"):
            with self.assertRaises(AttributeError):
                setattr(GROW, name, 1)


class Tables(WrongInputs):
    def test_tables_add_up_signs(self):
        for turner in drawn.turners(50, 30, most=40):
            numbers = range(1, turner.letters + 1)
            told = tuple(tuple(image.count(j) - image.count(-j) for j in numbers) for image in turner.images)
            self.assertEqual(table_of(turner), told)

    def test_table_of_a_product(self):
        for letters in range(1, 6):
            for one, other in zip(drawn.turners(51, 5, letters=letters), drawn.turners(52, 5, letters=letters)):
                self.assertEqual(table_of(one * other), table_product(table_of(other), table_of(one)))

    def test_products_of_tables(self):
        rng = drawn.dice(53)
        for size in range(1, 6):
            one, other = ([[rng.randint(-9, 9) for _ in range(size)] for _ in range(size)] for _ in range(2))
            told = tuple(tuple(sum(one[i][k] * other[k][j] for k in range(size)) for j in range(size)) for i in range(size))
            self.assertEqual(table_product(tuple(map(tuple, one)), tuple(map(tuple, other))), told)

    def test_determinants(self):
        rng = drawn.dice(54)
        for size in range(1, 6):
            for _ in range(5):
                table = tuple(tuple(rng.randint(-9, 9) for _ in range(size)) for _ in range(size))
                total = 0
                for row in itertools.permutations(range(size)):
                    term = (-1) ** sum(row[i] > row[j] for i in range(size) for j in range(i, size))
                    for place, column in enumerate(row):
                        term *= table[place][column]
                    total += term
                self.assertEqual(table_determinant(table), total)

    def test_determinants_of_turners(self):
        found = [table_determinant(table_of(turner)) for turner in drawn.turners(55, 40)]
        self.assertEqual(set(found), {1, -1})
        self.assertEqual(table_determinant(table_of(Turner.idle(5))), 1)
        self.assertEqual(table_determinant(((0,),)), 0)
        self.assertEqual(table_determinant(((2, 4), (1, 2))), 0)

    def test_a_turner_with_the_unit_table_need_not_be_idle(self):
        turner = Turner(((2, 1, -2), (2,)))
        self.assertEqual(table_of(turner), table_of(Turner.idle(2)))
        self.assertFalse(turner == Turner.idle(2))

    def test_integers_of_sixty_digits_and_more(self):
        high = 10 ** 60 - 1
        self.assertEqual(table_product(((high,),), ((-high,),)), ((-high * high,),))
        self.assertEqual(table_determinant(((high, 1), (1, -high))), -high * high - 1)
        self.assert_raises_with(InvalidTable, None, None, table_product, ((high + 1,),), ((1,),))
        self.assert_raises_with(InvalidTable, None, None, table_determinant, ((-high - 1,),))

    def test_unlike_sizes(self):
        for one, other in [(((1,),), ((1, 0), (0, 1))), (((0,) * 5,) * 5, ((0,) * 4,) * 4)]:
            self.assert_raises_with(InvalidOperation, None, None, table_product, one, other)
            self.assert_raises_with(InvalidOperation, None, None, table_product, other, one)

    def test_wrong_inputs(self):
        table = (InvalidTable, None, WRONG_TABLES)
        self.assert_refuses(table_of, (GROW,), [TURNER])
        self.assert_refuses(table_determinant, (((1, 0), (0, 1)),), [table])
        self.assert_refuses(table_product, (((1, 0), (0, 1)), ((1, 0), (0, 1))), [table, table])
