"""Promises [0.22] and [6.1] to [6.5]: turners turned by a word, alike turners, orders."""

import unittest

import brute
import drawn
from noroadback.errors import InvalidNumber, InvalidOperation, InvalidTable, InvalidTurner, InvalidWord, TooMany
from noroadback.turns import alike as module
from noroadback.turns.alike import (
    alike_word, exact_order, inner_word, is_alike_word, table_order, turned_by, turner_order,
)
from noroadback.turns.turners import Turner, table_of
from wrong import HUGE, LETTERS, TURNER, WORD, WrongInputs
from test_turners import WRONG_TABLES

GROW, THREE, PLAIN = Turner(((1, 2), (1,))), Turner(((2,), (3,), (1, 2))), Turner(((1,), (2, 1)))
THIRD, STAYS = Turner(((2,), (-2, -1))), Turner(((1,), (2,), (1, 2, -1, -2, 3)))
BENT = turned_by(2, (1, 1)) * THIRD


def table_times(one, other):
    """The product of two square tables."""
    size = range(len(one))
    return tuple(tuple(sum(one[row][k] * other[k][column] for k in size) for column in size) for row in size)


def unit(size):
    """The unit table."""
    return tuple(tuple(int(row == column) for column in range(size)) for row in range(size))


def turned_images(images, word):
    """Images, each turned by a word."""
    return tuple(brute.turned(image, word) for image in images)


class Constants(unittest.TestCase):
    def test_constants(self):
        self.assertEqual([module.MOST_IN_ALL, module.MOST_SIDE], [2000, 5])


class TurnedBy(WrongInputs):
    def test_each_word_is_turned(self):
        rng = drawn.dice(1)
        for number in range(40):
            letters = 1 + number % 5
            word, other = drawn.word(rng, letters, 12), drawn.word(rng, letters, 12)
            turner = turned_by(letters, word)
            self.assertIs(type(turner), Turner)
            self.assertEqual(turner(other), brute.turned(other, word))
            self.assertEqual(turner.images, turned_images(brute.idle(letters), word))

    def test_products(self):
        rng = drawn.dice(2)
        for number in range(20):
            letters = 1 + number % 5
            one, other = drawn.word(rng, letters, 8), drawn.word(rng, letters, 8)
            self.assertEqual(turned_by(letters, one) * turned_by(letters, other), turned_by(letters, brute.times(one, other)))

    def test_unlike_words_give_unlike_turners_but_for_one_letter(self):
        words = brute.words_to(2, 3)
        self.assertEqual(len({turned_by(2, word).images for word in words}), len(words))
        for word in brute.words_to(1, 4):
            self.assertEqual(turned_by(1, word), Turner.idle(1))

    def test_long_words(self):
        word = (1, 2) * 100
        self.assertEqual(turned_by(2, word).images, turned_images(((1,), (2,)), word))
        self.assertEqual(inner_word(turned_by(2, word)), word)
        twice = turned_by(2, word) * turned_by(2, word)
        self.assertEqual(inner_word(twice), word + word)

    def test_wrong_inputs(self):
        self.assert_refuses(turned_by, (2, (1,)), [LETTERS, WORD])
        self.assert_raises_with(InvalidWord, None, None, turned_by, 1, (2,))


class InnerWords(WrongInputs):
    def test_the_very_word_is_found(self):
        for letters in (2, 3):
            for word in brute.words_to(letters, 4 if letters == 2 else 3):
                self.assertEqual(inner_word(Turner(turned_images(brute.idle(letters), word))), word)
        rng = drawn.dice(3)
        for letters in (2, 3, 4, 5):
            for _ in range(20):
                word = drawn.word(rng, letters, 60)
                self.assertEqual(inner_word(turned_by(letters, word)), word)

    def test_powers_of_a_letter(self):
        for many in range(-99, 100):
            word = brute.raised((1,), many)
            self.assertEqual(inner_word(turned_by(2, word)), word)

    def test_turners_that_are_none(self):
        for turner in (GROW, THREE, PLAIN, THIRD, STAYS, Turner(((-1,), (-2,))), Turner(((2,), (1,)))):
            self.assertIsNone(inner_word(turner))
        rng = drawn.dice(4)
        for number in range(60):
            letters = 2 + number % 3
            images = turned_images(brute.idle(letters), drawn.word(rng, letters, 3))
            near = brute.behind(images, brute.move_images(letters, rng.choice(brute.all_moves(letters))))
            told = brute.alike_words(brute.idle(letters), near, 4 if letters == 2 else 3)
            self.assertEqual(inner_word(Turner(near)), told[0] if told else None)

    def test_one_letter(self):
        self.assertEqual(inner_word(Turner(((1,),))), ())
        self.assertIsNone(inner_word(Turner(((-1,),))))

    def test_wrong_inputs(self):
        self.assert_refuses(inner_word, (GROW,), [TURNER])


class AlikeTurners(WrongInputs):
    def test_drawn_turners_and_words(self):
        rng = drawn.dice(5)
        for number in range(80):
            letters = 2 + number % 4
            images = drawn.images(rng, letters, 10, 12)
            word = drawn.word(rng, letters, 10)
            one, other = Turner(images), Turner(turned_images(images, word))
            self.assertEqual(alike_word(one, other), word)
            self.assertEqual(alike_word(other, one), brute.back(word))
            self.assertIs(is_alike_word(one, other, word), True)
            wrong = drawn.word(rng, letters, 10)
            self.assertIs(is_alike_word(one, other, wrong), wrong == word)

    def test_words_that_are_powers_of_images(self):
        rng = drawn.dice(6)
        for number in range(60):
            letters = 2 + number % 3
            images = drawn.images(rng, letters, 8, 8)
            word = brute.raised(rng.choice(images), rng.randint(-6, 6))
            self.assertEqual(alike_word(Turner(images), Turner(turned_images(images, word))), word)

    def test_images_with_long_common_beginnings(self):
        rng = drawn.dice(12)
        for images in [((2, 1, 2, 1, 2, 2, 1, 2), (-2, -1, -2, -2, -1)), ((1, 1, -2, 1, 1, -2, 1, -2), (1, 1, -2, 1, 1, -2, -1))]:
            for many in range(-5, 6):
                for word in [(), (2, 1), drawn.word(rng, 2, 5)]:
                    by = brute.times(word, brute.raised(images[0], many))
                    self.assertEqual(alike_word(Turner(images), Turner(turned_images(images, by))), by)

    def test_a_third_turner(self):
        rng = drawn.dice(7)
        for number in range(20):
            letters = 2 + number % 3
            images = drawn.images(rng, letters, 8, 8)
            word, second = drawn.word(rng, letters, 6), drawn.word(rng, letters, 6)
            one, other = Turner(images), Turner(turned_images(images, word))
            third = Turner(turned_images(other.images, second))
            self.assertEqual(alike_word(one, third), brute.times(second, word))
            self.assertEqual(table_of(one), table_of(third))

    def test_turners_near_one_another(self):
        rng = drawn.dice(8)
        for number in range(60):
            letters = 2 + number % 2
            images = drawn.images(rng, letters, 6, 6)
            near = turned_images(images, drawn.word(rng, letters, 2))
            if rng.random() < 0.7:
                near = brute.behind(near, brute.move_images(letters, rng.choice(brute.all_moves(letters))))
            told = brute.alike_words(images, near, 5 if letters == 2 else 3)
            found = alike_word(Turner(images), Turner(near))
            if told or found is None or len(found) <= 3:
                self.assertEqual(found, told[0] if told else None)
            else:
                self.assertEqual(turned_images(images, found), near)

    def test_two_letters_are_alike_exactly_if_tables_are_equal(self):
        rng = drawn.dice(9)
        found = [Turner(drawn.images(rng, 2, 4, 4)) for _ in range(40)]
        for one in found:
            for other in found:
                word = alike_word(one, other)
                self.assertEqual(word is not None, table_of(one) == table_of(other))
                if word is not None:
                    self.assertEqual(turned_images(one.images, word), other.images)

    def test_one_letter(self):
        one, other = Turner(((1,),)), Turner(((-1,),))
        self.assertEqual([alike_word(one, one), alike_word(other, other), alike_word(one, other)], [(), (), None])
        for word in brute.words_to(1, 3):
            self.assertIs(is_alike_word(other, other, word), True)
            self.assertIs(is_alike_word(one, other, word), False)

    def test_words_of_any_length_are_judged(self):
        word = (1, 2) * 150
        other = turned_by(2, word[:200]) * turned_by(2, word[200:]) * GROW
        self.assertIs(is_alike_word(GROW, other, word), True)
        self.assertIs(is_alike_word(GROW, other, word + (1,)), False)
        self.assertEqual(alike_word(GROW, other), word)
        self.assertIs(is_alike_word(Turner(((1,),)), Turner(((1,),)), (1,) * 5000), True)

    def test_values_that_are_no_words(self):
        for value in [(True,), (1, -1, 1), (3,), (0,), [1], (1, None), (1.0,)]:
            self.assertIs(is_alike_word(GROW, turned_by(2, (1,)) * GROW, value), False)
        self.assertIs(is_alike_word(GROW, turned_by(2, (1,)) * GROW, (1,)), True)
        self.assert_judges_strange(is_alike_word, (GROW, GROW), [])

    def test_wrong_inputs(self):
        self.assert_refuses(alike_word, (GROW, PLAIN), [TURNER, TURNER])
        self.assert_refuses(is_alike_word, (GROW, PLAIN, ()), [TURNER, TURNER, None])
        for call in (alike_word, lambda one, other: is_alike_word(one, other, ())):
            self.assert_raises_with(InvalidOperation, None, None, call, GROW, THREE)
            self.assert_raises_with(InvalidTurner, None, None, call, GROW, THREE.images)
            self.assert_raises_with(InvalidTurner, None, None, call, None, THREE)


class TableOrders(WrongInputs):
    def test_tables_of_turners_and_others(self):
        rng = drawn.dice(10)
        for number in range(200):
            size = 1 + number % 5
            table = tuple(tuple(rng.choice([0, 0, 1, -1]) for _ in range(size)) for _ in range(size))
            power, told = table, None
            for many in range(1, 40):
                if power == unit(size):
                    told = many
                    break
                power = table_times(power, table)
            self.assertEqual(table_order(table), told)

    def test_all_orders(self):
        cycle = {size: tuple(tuple(int(column == (row + 1) % size) for column in range(size)) for row in range(size))
                 for size in range(1, 6)}
        self.assertEqual([table_order(cycle[size]) for size in range(1, 6)], [1, 2, 3, 4, 5])
        turned = {size: tuple(tuple(-entry if row == 0 else entry for entry in line) for row, line in enumerate(table))
                  for size, table in cycle.items()}
        self.assertEqual([table_order(turned[size]) for size in range(1, 6)], [2, 4, 6, 8, 10])

        def blocks(one, other):
            return tuple(row + (0,) * len(other) for row in one) + tuple((0,) * len(one) + row for row in other)
        self.assertEqual(table_order(blocks(cycle[2], cycle[3])), 6)
        self.assertEqual(table_order(blocks(turned[2], cycle[3])), 12)
        self.assertEqual(table_order(blocks(turned[2], turned[3])), 12)
        self.assertEqual(table_order(blocks(((1,),), turned[4])), 8)

    def test_tables_without_order(self):
        for table in [((0,),), ((2,),), ((1, 1), (0, 1)), ((1, 1), (1, 0)), ((10 ** 60 - 1,),), ((1, 10 ** 59), (0, 1)), ((0,) * 5,) * 5]:
            self.assertIsNone(table_order(table))
        self.assertEqual([table_order(((1,),)), table_order(((-1,),)), table_order(((1, 10 ** 59), (0, -1)))], [1, 2, 2])

    def test_wrong_inputs(self):
        self.assert_refuses(table_order, (unit(2),), [(InvalidTable, None, WRONG_TABLES)])


class Orders(WrongInputs):
    def order_by_powers(self, turner):
        """The pair of the least power to 12 that is turned by a word, and of the word; and the least one that is idle."""
        images, inner, exact = turner.images, None, None
        for many in range(1, 13):
            word = inner_word(Turner(images)) if max(map(len, images)) <= 200 else None
            if word is not None and inner is None:
                inner = (many, word)
            if images == brute.idle(turner.letters) and exact is None:
                exact = many
            if brute.length(images) > 2000:
                break
            images = brute.behind(images, turner.images)
        return inner, exact

    def test_turners_of_finite_order_turned_by_words(self):
        rng = drawn.dice(11)
        for number in range(60):
            letters = 1 + number % 5
            names = rng.sample(range(1, letters + 1), letters)
            images = tuple((rng.choice([1, -1]) * name,) for name in names)
            by = Turner(drawn.images(rng, letters, 4, 5))
            turner = by * Turner(images) * by.undone()
            if letters > 1 and rng.random() < 0.6:
                turner = turned_by(letters, drawn.word(rng, letters, 2)) * turner
            if turner.length <= 60:
                self.assertEqual((turner_order(turner), exact_order(turner)), self.order_by_powers(turner))
                order = turner_order(turner)
                self.assertEqual(order[0], table_order(table_of(turner)))
                self.assertEqual(turner_order(turner.undone())[0], order[0])

    def test_tables_without_order(self):
        for turner in (GROW, THREE, PLAIN, GROW.power(10), PLAIN.power(-20)):
            self.assertEqual([turner_order(turner), exact_order(turner)], [None, None])
        # Nothing is raised, however long the images are.
        self.assertIsNone(turner_order(GROW.power(20)))

    def test_tables_of_an_order_that_the_turner_has_not(self):
        self.assertEqual([turner_order(STAYS), exact_order(STAYS)], [None, None])
        self.assertEqual(turner_order(turned_by(2, (1, 2))), (1, (1, 2)))
        self.assertIsNone(exact_order(turned_by(2, (1, 2))))
        self.assertEqual([turner_order(Turner.idle(3)), exact_order(Turner.idle(3))], [(1, ()), 1])
        self.assertEqual([exact_order(Turner(((-1,),))), exact_order(Turner(((1,),)))], [2, 1])

    def test_images_with_2000_letters_in_all_and_more(self):
        def tall(letters):
            """A turner with the unit table and so many letters in all, which is turned by a word."""
            return turned_by(2, (1,) * ((letters - 2) // 2))
        self.assertEqual(tall(402).length, 402)
        twice = [tall(402)]
        for _ in range(4):
            twice.append(twice[-1] * tall(402))
        self.assertEqual([turner.length for turner in twice], [402, 802, 1202, 1602, 2002])
        self.assertEqual(turner_order(twice[3]), (1, (1,) * 800))
        exact = twice[3] * turned_by(2, (1,) * 199)
        self.assertEqual([exact.length, turner_order(exact)], [2000, (1, (1,) * 999)])
        for call in (turner_order, exact_order):
            self.assert_raises_with(TooMany, "most", 2000, call, twice[4])

    def test_the_powers_ahead_are_bounded_too(self):
        mirror = Turner(((-1,), (2,) + (1,) * 199))
        self.assertEqual([turner_order(mirror), exact_order(mirror)], [(2, ()), 2])
        by = turned_by(2, (1, 2) * 100)
        bent = by * Turner(((2,), (1,)))
        self.assertEqual([bent.length, (bent * bent).length, turner_order(bent)[0]], [800, 1600, 2])
        # The first power is short enough, but the second one is not.
        bent = by * bent
        self.assertEqual(table_order(table_of(bent)), 2)
        self.assertTrue(bent.length <= 2000 < (bent * bent).length)
        self.assert_raises_with(TooMany, "most", 2000, turner_order, bent)
        self.assert_raises_with(TooMany, "most", 2000, exact_order, bent)

    def test_an_idle_power_behind_a_long_one_is_refused(self):
        # The square is idle, but the turner itself is long.
        by = Turner(((1,), (2,) + (1,) * 199))
        again = by
        for _ in range(6):
            again = again * by
        turner = again * Turner(((1,), (-2,))) * again.undone()
        self.assertEqual((turner * turner), Turner.idle(2))
        self.assertGreater(turner.length, 2000)
        self.assert_raises_with(TooMany, "most", 2000, exact_order, turner)

    def test_wrong_inputs(self):
        self.assert_refuses(turner_order, (GROW,), [TURNER])
        self.assert_refuses(exact_order, (GROW,), [TURNER])
        self.assert_raises_with(InvalidNumber, "given", HUGE, turned_by, HUGE, (1,))
