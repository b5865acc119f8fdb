"""Promises [0.23] and [7.1] to [7.7]: turners of two letters."""

import itertools
import math
import unittest

import brute
import drawn
from noroadback.errors import InvalidNumber, InvalidOperation, InvalidTable, InvalidTurner, Refused, TooMany
from noroadback.turns import two as module
from noroadback.turns.alike import alike_word, turned_by
from noroadback.turns.forms import form_of
from noroadback.turns.turners import Turner, table_of
from noroadback.turns.two import (
    base_ring, commutator_sign, is_base_letter, is_two_alike, is_two_kind, of_table, quotient_round, two_alike, two_kind,
)
from wrong import HUGE, STRANGE, TURNER, WrongInputs, integers_but
from test_turners import WRONG_TABLES

GROW, THREE, PLAIN = Turner(((1, 2), (1,))), Turner(((2,), (3,), (1, 2))), Turner(((1,), (2, 1)))
MIRROR = Turner(((1,), (-2,)))


def small_tables(most):
    """All tables with the determinant 1 or -1 and integers of at most a size."""
    numbers = range(-most, most + 1)
    return [((a, b), (c, d)) for a, b, c, d in itertools.product(numbers, repeat=4) if abs(a * d - b * c) == 1]


def times(one, other):
    """The product of two tables of two rows."""
    return tuple(tuple(sum(row[k] * other[k][column] for k in (0, 1)) for column in (0, 1)) for row in one)


def numbers_of(table):
    """The numbers t and d."""
    (a, b), (c, d) = table
    return a + d, a * d - b * c


def order_of(table):
    """The order of a table, None if there is none."""
    power = table
    for many in range(1, 13):
        if power == ((1, 0), (0, 1)):
            return many
        power = times(power, table)
    return None


def sums(word):
    """The sums of the signs of the letters 1 and 2."""
    return word.count(1) - word.count(-1), word.count(2) - word.count(-2)


def base_rings(most):
    """The rings of letters of bases, by their sums: images of letters under products of single moves, ring by ring."""
    rings = {(0, 1): (2,), (1, 0): (1,), (0, -1): (-2,), (-1, 0): (-1,)}
    waiting = [brute.idle(2)]
    seen = {brute.idle(2)}
    for images in waiting:
        for move in brute.all_moves(2):
            found = brute.behind(images, brute.move_images(2, move))
            if brute.length(found) <= most and found not in seen:
                seen.add(found)
                waiting.append(found)
                for image in found:
                    rings.setdefault(sums(image), set())
                    rings[sums(image)] = brute.ring(image)
    return rings


class Constants(unittest.TestCase):
    def test_constants(self):
        self.assertEqual(module.MAX_ENTRY, 60)


class BaseRings(WrongInputs):
    def test_rings_of_images(self):
        found = base_rings(8)
        self.assertGreater(len(found), 30)
        for (first, second), ring in found.items():
            self.assertEqual(base_ring(first, second), ring)

    def test_all_pairs_without_a_common_divisor(self):
        for first, second in itertools.product(range(-60, 61, 7), range(-60, 61, 4)):
            if math.gcd(first, second) == 1:
                ring = base_ring(first, second)
                self.assertEqual((sums(ring), len(ring)), ((first, second), abs(first) + abs(second)))
                self.assertEqual(ring, brute.ring(ring))
                self.assertTrue(is_base_letter(ring))

    def test_edges(self):
        self.assertEqual(len(base_ring(60, -59)), 119)
        self.assertEqual([base_ring(-60, 1), base_ring(1, -60)], [(-1,) * 60 + (2,), (-2,) * 60 + (1,)])
        self.assertEqual([base_ring(0, 1), base_ring(-1, 0), base_ring(1, 1)], [(2,), (-1,), (1, 2)])
        for pair in [(0, 0), (2, 2), (0, 2), (-3, 0), (60, 60), (-4, 6), (60, -58)]:
            self.assert_raises_with(InvalidOperation, None, None, base_ring, *pair)

    def test_wrong_inputs(self):
        self.assert_refuses(base_ring, (1, 2), [(InvalidNumber, "given", integers_but(-60, 60))] * 2)
        self.assert_raises_with(InvalidNumber, "given", 61, base_ring, 2, 61)
        self.assert_raises_with(InvalidNumber, "given", -61, base_ring, -61, 61)


class BaseLetters(WrongInputs):
    def test_all_short_words(self):
        rings = base_rings(8)
        for word in brute.words_to(2, 6):
            self.assertIs(is_base_letter(word), rings.get(sums(word)) == brute.ring(word), word)

    def test_images_of_drawn_turners(self):
        rng = drawn.dice(1)
        for _ in range(60):
            for image in drawn.images(rng, 2, 20, 60):
                self.assertIs(is_base_letter(image), True)
                self.assertIs(is_base_letter(brute.turned(image, drawn.word(rng, 2, 9))), True)
                self.assertIs(is_base_letter(brute.times(image, image)), False)
                self.assertIs(is_base_letter(brute.times(image, (1, 2, -1, -2))), brute.ring(
                    brute.times(image, (1, 2, -1, -2))) == base_ring(*sums(image)) if max(map(abs, sums(image))) <= 60 else False)

    def test_words_of_any_length(self):
        for word in [(1,) * 5000 + (2,), (1, 1, 2) * 400 + (1, 2), (1, 2) * 700 + (1,) + (-2, -1) * 700]:
            self.assertIs(is_base_letter(word), True)
        for word in [(1,) * 5000 + (2,) * 2, (1, 2) * 500, (1, 1, 2, 2) * 300 + (1,)]:
            self.assertIs(is_base_letter(word), False)

    def test_values_that_are_no_words(self):
        for value in [(True,), (True, 2), [1], (1, -1, 2), (3,), (0,), "1", 1, (HUGE,)]:
            self.assertIs(is_base_letter(value), False)
        self.assert_judges_strange(is_base_letter, (), [])


class OfTable(WrongInputs):
    def test_small_tables(self):
        for table in small_tables(3):
            turner = of_table(table)
            self.assertEqual(table_of(turner), table)
            self.assertEqual(Turner(turner.images), turner)
            self.assertTrue(max(map(len, turner.images)) <= 120)

    def test_drawn_tables(self):
        rng = drawn.dice(2)
        for _ in range(150):
            table = ((1, 0), (0, 1))
            for _ in range(30):
                step = rng.choice([((1, 1), (0, 1)), ((1, 0), (1, 1)), ((0, 1), (1, 0)), ((-1, 0), (0, 1)), ((1, -1), (0, 1))])
                found = times(table, step) if rng.random() < 0.5 else times(step, table)
                if max(abs(entry) for row in found for entry in row) <= 60:
                    table = found
            turner = of_table(table)
            self.assertEqual((table_of(turner), Turner(turner.images)), (table, turner))
            self.assertTrue(max(map(len, turner.images)) <= 120)

    def test_edges(self):
        for table in [((1, 60), (0, 1)), ((1, 0), (-60, 1)), ((60, 59), (59, 58)), ((60, 59), (-59, -58)), ((-60, 1), (-1, 0)),
                      ((59, -60), (58, -59)), ((0, 1), (1, 60)), ((0, -1), (1, -60)), ((60, 59), (1, 1))]:
            turner = of_table(table)
            self.assertEqual((table_of(turner), max(map(len, turner.images)) <= 120), (table, True))
            Turner(turner.images)

    def test_wrong_inputs(self):
        for table in [((2, 0), (0, 1)), ((0, 0), (0, 0)), ((60, 60), (60, 60)), ((1, 2), (2, 4)), ((60, 1), (1, -60)), ((1, 1), (1, 3))]:
            self.assert_raises_with(Refused, "reason", ("determinant",), of_table, table)
        wrongs = [value for value in WRONG_TABLES] + [
            ((1,),), ((1, 0, 0), (0, 1, 0), (0, 0, 1)), ((61, 1), (1, 0)), ((1, 0), (-61, 1)), ((1, 0), (0, True)), ((1, 0), [0, 1])]
        self.assert_refuses(of_table, (((1, 0), (0, 1)),), [(InvalidTable, None, wrongs)])


class Kinds(WrongInputs):
    def told_kind(self, table):
        """The kind, by its numbers; a kept letter is not told."""
        trace, sign = numbers_of(table)
        if order_of(table) is not None:
            return ("round", order_of(table))
        return ("kept",) if sign == 1 and abs(trace) == 2 else ("grows", (sign, -trace, 1))

    def test_small_tables(self):
        for table in small_tables(2):
            turner, told = of_table(table), self.told_kind(table)
            kind = two_kind(turner)
            self.assertEqual(kind[:len(told)], told)
            self.assertIs(is_two_kind(turner, kind), True)
            if told == ("kept",):
                self.assert_kept(turner, kind[1])

    def assert_kept(self, turner, word):
        """The word is a letter of a base that is led to a word alike to it, or to its contrary, as t tells."""
        self.assertTrue(is_base_letter(word))
        goal = word if numbers_of(table_of(turner))[0] == 2 else brute.back(word)
        self.assertEqual(brute.ring(brute.told(turner.images, word)), brute.ring(goal))

    def test_drawn_turners(self):
        for turner in drawn.turners(3, 120, 30, 2):
            told, kind = self.told_kind(table_of(turner)), two_kind(turner)
            self.assertEqual(kind[:len(told)], told)
            if told[0] == "round":
                power = turner.images
                for _ in range(told[1] - 1):
                    self.assertIsNone(alike_word(Turner.idle(2), Turner(power)))
                    power = brute.behind(power, turner.images)
                self.assertIsNotNone(alike_word(Turner.idle(2), Turner(power)))
            if told[0] == "kept":
                self.assert_kept(turner, kind[1])

    def test_kept_letters_of_turners_that_are_led_to_others(self):
        for by in drawn.turners(4, 40, 12, 2):
            for many in (1, -2, 3):
                turner = by * PLAIN.power(many) * by.undone()
                name, word = two_kind(turner)
                self.assertEqual(name, "kept")
                self.assert_kept(turner, word)
                self.assertIn(brute.ring(word), [brute.ring(by((1,))), brute.ring(by((-1,)))])
                for other in (word, brute.back(word), brute.turned(word, (2, 1, 1))):
                    self.assertIs(is_two_kind(turner, ("kept", other)), True)
                for other in ((2,), (1, 2), (), word + word, (1,), (1, 1, 2)):
                    self.assertIs(is_two_kind(turner, ("kept", other)), brute.ring(other) in (
                        brute.ring(word), brute.ring(brute.back(word))))

    def test_orders(self):
        tables = [((1, 0), (0, 1)), ((-1, 0), (0, -1)), ((0, 1), (-1, -1)), ((0, 1), (-1, 0)), ((0, 1), (-1, 1)), ((0, 1), (1, 0))]
        found = [two_kind(of_table(table)) for table in tables]
        self.assertEqual(found, [("round", order) for order in (1, 2, 3, 4, 6, 2)])

    def test_values_that_are_not_the_kind(self):
        for turner, wrongs in [
            (GROW, [("grows", (-1, -1)), ("grows", [-1, -1, 1]), ("grows", (-1, -1, True)), ("grows", (-1, 1, 1)), ("grows",), ("round", 1),
                    ("grows", (-1, -1, 1), 1), ["grows", (-1, -1, 1)], ("kept", (1,)), ("Grows", (-1, -1, 1)), ("grows", None)]),
            (Turner.idle(2), [("round", True), ("round", 2), ("round", "1"), ("round", (1,)), ("round",), ("round", 10 ** 5000), ("kept", (1,))]),
            (PLAIN, [("kept", (True,)), ("kept", (2,)), ("kept", ()), ("kept", [1]), ("kept", None), ("kept", (1, 1)), ("round", 1), ("kept",)]),
            (Turner(((-1,), (-2, 1))), [("kept", (True,)), ("kept", (2,)), ("grows", (1, 2, 1)), ("kept", (1, 2))]),
        ]:
            self.assertIs(is_two_kind(turner, two_kind(turner)), True)
            for value in wrongs:
                self.assertIs(is_two_kind(turner, value), False, value)
            self.assert_judges_strange(is_two_kind, (turner,), [])

    def test_kept_words_of_any_length(self):
        self.assertIs(is_two_kind(PLAIN, ("kept", (1, 2) * 400 + (1,) + (-2, -1) * 400)), True)
        self.assertIs(is_two_kind(Turner(((-1,), (-2, 1))), ("kept", (1, 2) * 400 + (-1,) + (-2, -1) * 400)), True)

    def test_wrong_inputs(self):
        for call, more in [(two_kind, ()), (is_two_kind, (None,)), (quotient_round, ()), (commutator_sign, ())]:
            self.assert_refuses(call, (GROW, *more), [TURNER, None][:1 + len(more)])
            for turner in (THREE, Turner.idle(1), Turner.idle(5)):
                self.assert_raises_with(InvalidOperation, None, None, call, turner, *more)


class Quotients(unittest.TestCase):
    def told_round(self, table, places=60):
        """The round of quotients, from the direction in integers of many figures."""
        (a, b), (c, d) = table
        trace, sign = numbers_of(table)
        unit = 10 ** 400
        root = math.isqrt((trace * trace - 4 * sign) * unit * unit) * (1 if trace > 0 else -1)
        top, bottom = root + (a - d) * unit, 2 * b * unit
        found = []
        for _ in range(places):
            found.append(top // bottom)
            top, bottom = bottom, top - found[-1] * bottom
        for length in range(1, places // 3):
            tail = found[places - 3 * length:]
            if tail[:length] == tail[length:2 * length] == tail[2 * length:]:
                return min(brute.rotations(tuple(tail[:length])))

    def test_small_and_drawn_tables(self):
        tables = small_tables(3) + [table_of(turner) for turner in drawn.turners(5, 60, 25, 2)]
        for table in tables:
            turner = of_table(table)
            if two_kind(turner)[0] == "grows":
                found = quotient_round(turner)
                self.assertEqual(found, self.told_round(table))
                self.assertTrue(type(found) is tuple and all(type(entry) is int and entry >= 1 for entry in found))
            else:
                with self.assertRaises(Refused) as caught:
                    quotient_round(turner)
                self.assertEqual(caught.exception.reason, ("kind",))

    def test_told_rounds(self):
        self.assertEqual(quotient_round(GROW.power(20)), (1,))
        self.assertEqual(quotient_round(Turner(((1, 1, 1, 2), (1,)))), (3,))
        # Rounds that are not equal when they are told from behind, also where the root of the greater size is below 0.
        for row in [(1, 2, 3), (1, 3, 2), (1, 1, 2, 3), (1, 1, 3, 2)]:
            table = ((1, 0), (0, 1))
            for many in row:
                table = times(((many, 1), (1, 0)), table)
            opposite = tuple(tuple(-entry for entry in line) for line in table)
            for told in (table, opposite):
                self.assertEqual([quotient_round(of_table(told)), self.told_round(told)], [row, row])
        # Directions 1 + 1 / (3 + 1 / (1 + ..)), the quotients 1 and 3 by turns, told by a product of tables of one quotient each.
        self.assertEqual(quotient_round(of_table(times(((1, 1), (1, 0)), ((3, 1), (1, 0))))), (1, 3))
        self.assertEqual(quotient_round(of_table(times(((2, 1), (1, 0)), times(((1, 1), (1, 0)), ((5, 1), (1, 0)))))), (1, 2, 5))


class LedToOneAnother(WrongInputs):
    def key(self, table):
        """What [7.5] compares."""
        trace, sign = numbers_of(table)
        kind = two_kind(of_table(table))
        if kind[0] == "round":
            even = table[0][1] % 2 == 0 and table[1][0] % 2 == 0
            return ("round", kind[1], trace, sign, even if sign == -1 else None)
        if kind[0] == "kept":
            one = trace // 2
            return ("kept", trace, math.gcd(table[0][0] - one, table[0][1], table[1][0], table[1][1] - one))
        return ("grows", trace, sign, quotient_round(of_table(table)))

    def assert_leads(self, one, other, turner):
        """The turner leads one to other."""
        Turner(turner.images)
        found = (turner * one).images
        # other(turner(letter)) turned by a word is turner(one(letter)): this is seen by what the letters are led to.
        goals = brute.behind(other.images, turner.images)
        rings = [brute.ring(word) for word in found]
        self.assertEqual([brute.ring(word) for word in goals], rings)
        self.assertEqual(brute.ring(brute.shrunk(goals[0] + goals[1])), brute.ring(brute.shrunk(found[0] + found[1])))
        self.assertEqual(brute.ring(brute.shrunk(goals[0] + brute.back(goals[1]))), brute.ring(
            brute.shrunk(found[0] + brute.back(found[1]))))

    def test_small_tables(self):
        tables = small_tables(2)
        turners = {table: of_table(table) for table in tables}
        keys = {table: self.key(table) for table in tables}
        for one in tables[::3]:
            for other in tables:
                found = two_alike(turners[one], turners[other])
                self.assertEqual(found is not None, keys[one] == keys[other], (one, other))
                if found is not None:
                    table = table_of(found)
                    self.assertEqual(times(one, table), times(table, other))
                    self.assertIs(is_two_alike(turners[one], turners[other], found), True)

    def test_turners_led_by_drawn_ones(self):
        rng = drawn.dice(6)
        done = 0
        for one in drawn.turners(7, 200, 12, 2):
            by = Turner(drawn.images(rng, 2, 5, 6))
            other = turned_by(2, drawn.word(rng, 2, 2)) * by * one * by.undone()
            self.assertIs(is_two_alike(one, other, by), True)
            if one.length <= 40 and other.length <= 40:
                found = two_alike(one, other)
                self.assert_leads(one, other, found)
                self.assertIs(is_two_alike(one, other, turned_by(2, (1, 2)) * found), True)
                done += 1
        self.assertGreater(done, 60)

    def test_classes_are_told_by_forms(self):
        forms = {}
        for table in small_tables(4):
            form, by = form_of(table)
            self.assertEqual(times(by, table), times(form, by))
            self.assertEqual(abs(numbers_of(by)[1]), 1)
            forms.setdefault(self.key(table), set()).add(form)
        self.assertEqual({len(found) for found in forms.values()}, {1})
        self.assertEqual(len({form for found in forms.values() for form in found}), len(forms))

    def test_forms_of_tables_led_far(self):
        rng = drawn.dice(9)
        steps = [((1, 1), (0, 1)), ((1, 0), (1, 1)), ((0, 1), (1, 0)), ((1, -1), (0, 1)), ((-1, 0), (0, 1))]
        for table in [((0, 1), (-1, -1)), ((0, 1), (-1, 0)), ((0, 1), (-1, 1)), ((1, 0), (0, -1)), ((0, 1), (1, 0)), ((1, 3), (0, 1)),
                      ((-1, 0), (5, -1)), ((10, 3), (7, 2)), ((-10, -3), (-7, -2)), ((2, 1), (1, 1))]:
            told = form_of(table)[0]
            for _ in range(40):
                led = table
                for _ in range(rng.randint(1, 25)):
                    step = rng.choice(steps)
                    (a, b), (c, d) = step
                    sign = a * d - b * c
                    led = times(times(((sign * d, -sign * b), (-sign * c, sign * a)), led), step)
                form, by = form_of(led)
                self.assertEqual((form, times(by, led), abs(numbers_of(by)[1])), (told, times(form, by), 1))

    def test_even_entries(self):
        swap = Turner(((2,), (1,)))
        self.assertIsNone(two_alike(MIRROR, swap))
        self.assertIsNotNone(two_alike(swap, Turner(((1,), (1, -2)))))
        self.assertIsNotNone(two_alike(MIRROR, Turner(((1,), (1, -2, 1)))))

    def test_unlike_turners_with_equal_numbers(self):
        one, other = of_table(((1, 4), (1, 5))), of_table(((1, 2), (2, 5)))
        self.assertEqual(two_kind(one), two_kind(other))
        self.assertIsNone(two_alike(one, other))
        self.assertIs(is_two_alike(one, other, Turner.idle(2)), False)

    def test_values(self):
        for value in STRANGE + [Turner.idle(3), Turner.idle(1), ((1,), (2,)), None, GROW.images]:
            self.assertIs(is_two_alike(GROW, GROW, value), isinstance(value, Turner) and value.images == GROW.images)
        self.assertIs(is_two_alike(GROW, GROW, Turner.idle(2)), True)
        self.assertIs(is_two_alike(GROW, GROW, GROW.power(20)), True)
        self.assertIs(is_two_alike(GROW, GROW, MIRROR), False)

    def test_40_letters_together_and_41(self):
        forty, more = Turner(((1,), (2,) + (1,) * 38)), Turner(((1,), (2,) + (1,) * 39))
        self.assertEqual([forty.length, more.length], [40, 41])
        found = two_alike(forty, Turner(((1,) + (2,) * 38, (2,))))
        self.assertIs(is_two_alike(forty, Turner(((1,) + (2,) * 38, (2,))), found), True)
        for pair in [(more, GROW), (GROW, more), (more, more)]:
            self.assert_raises_with(TooMany, "most", 40, two_alike, *pair)
        self.assertIs(is_two_alike(more, GROW, GROW), False)
        self.assertIs(is_two_alike(more, more, more), True)

    def test_wrong_inputs(self):
        self.assert_refuses(two_alike, (GROW, PLAIN), [TURNER, TURNER])
        self.assert_refuses(is_two_alike, (GROW, PLAIN, None), [TURNER, TURNER, None])
        for call in (two_alike, lambda one, other: is_two_alike(one, other, None)):
            for pair in [(THREE, THREE), (GROW, THREE), (THREE, GROW), (Turner.idle(1), Turner(((1,), (2,) + (1,) * 60)))]:
                self.assert_raises_with(InvalidOperation, None, None, call, *pair)
            self.assert_raises_with(InvalidTurner, None, None, call, THREE, None)


class CommutatorSigns(unittest.TestCase):
    def test_the_word_is_led_to_one_alike(self):
        for turner in drawn.turners(8, 60, 20, 2):
            sign = commutator_sign(turner)
            self.assertEqual(sign, numbers_of(table_of(turner))[1])
            goal = (1, 2, -1, -2) if sign == 1 else (2, 1, -2, -1)
            self.assertEqual(brute.ring(brute.told(turner.images, (1, 2, -1, -2))), brute.ring(goal))
