"""Promises [0.17], [0.24] and [11.1] to [11.7]: count tables, what they hang together by, and rates."""

import itertools
import math
import unittest
from fractions import Fraction

import brute
import drawn
from noroadback.errors import InvalidNumber, InvalidOperation, InvalidTable, Refused
from noroadback.rates import tables as module
from noroadback.rates.tables import (
    beat, compare_rates, counts, hangs_together, is_rate, is_rate_bounds, is_rate_paper, own_poly, pieces_of, rate_bounds, rate_paper,
    row_led, table_power, weights_led,
)
from noroadback.turns.turners import Turner
from noroadback.webs.stands import Stand, rose_stand
from wrong import HUGE, STAND, STRANGE, WrongInputs, integers_but

GOLD, TURNED, STEPS = ((1, 1), (1, 0)), ((0, 1), (1, 0)), ((1, 1, 0), (0, 0, 1), (0, 0, 2))
WRONG_TABLES = [value for value in STRANGE if value not in (((1,),), ((0,),))] + [
    0, 1, HUGE, (), (1,), ((1, 2),), ((1,), (2,)), ((1, 2), [3, 4]), [(1, 2), (3, 4)], ((-1,),), ((1, 0), (0, -1)), ((True,),),
    ((1, 0), (0, False)), ((1, 0), (0, None)), ((1, 0), (0, "1")), ((1, 0), (0, (1,))), ((10 ** 60,),), ((1, 1), (1, HUGE)), ((),),
    ((1,) * 25,) * 25, ((1,) * 24,) * 23, ((1, 2, 3), (1, 2), (1, 2, 3)), {0: (1,)},
]
TABLE = (InvalidTable, None, WRONG_TABLES)
WRONG_FRACTIONS = STRANGE + [
    1, 0, (), (1,), (1, 2, 3), [1, 2], (2, 4), (1, 0), (1, -1), (-1, 1), (True, 2), (1, True), (1, None), ("1", 2), (10 ** 60, 1),
    (1, 10 ** 60), (HUGE, 1), (3, 3), (0, 2), (-1, 2),
]
FRACTION = (InvalidOperation, None, WRONG_FRACTIONS + [(0, 1)])


def draw_table(rng, size, most, share=0.5):
    """A table of integers to a greatest one; so great a share of them is above 0."""
    return tuple(tuple(rng.randint(0, most) if rng.random() < share else 0 for _ in range(size)) for _ in range(size))


def tables(seed, many, sizes=6):
    """Drawn tables with small and great integers."""
    rng = drawn.dice(seed)
    for number in range(many):
        yield rng, draw_table(rng, 1 + number % sizes, rng.choice([1, 1, 2, 3, 9, 10 ** 12]), rng.choice([0.2, 0.4, 0.7]))


def times(one, other):
    """The product of two square tables."""
    size = range(len(one))
    return tuple(tuple(sum(one[row][k] * other[k][column] for k in size) for column in size) for row in size)


def unit(size):
    """The unit table."""
    return tuple(tuple(int(row == column) for column in range(size)) for row in range(size))


def reaches(table):
    """The pairs of places of which the first one reaches the second one, by powers."""
    found, power = set(), table
    for _ in table:
        found |= {(one, other) for one, row in enumerate(power) for other, entry in enumerate(row) if entry}
        power = times(tuple(tuple(min(entry, 1) for entry in row) for row in power), table)
    return found


def does_hang(table):
    """Whether each place reaches each place."""
    return len(reaches(table)) == len(table) ** 2


def determinant(rows):
    """The determinant, by fractions."""
    rows = [[Fraction(entry) for entry in row] for row in rows]
    value = Fraction(1)
    while rows:
        found = [place for place, row in enumerate(rows) if row[0]]
        if not found:
            return Fraction(0)
        first = rows.pop(found[0])
        value *= first[0] * (-1) ** found[0]
        rows = [[entry - row[0] / first[0] * told for entry, told in zip(row[1:], first[1:])] for row in rows]
    return value


def near_rate(table):
    """The rate, nearly: by logarithms of far powers."""
    best = 0.0
    for piece in pieces_by_pairs(table):
        part = tuple(tuple(table[one][other] for other in piece) for one in piece)
        if len(piece) == 1:
            best = max(best, float(part[0][0]))
            continue
        # With the unit table added, the row comes to rest.
        row = [1.0] * len(part)
        for _ in range(3000):
            led = [entry + sum(many * other for many, other in zip(line, row)) for entry, line in zip(row, part)]
            most = max(led)
            row = [entry / most for entry in led]
        best = max(best, most - 1)
    return best


def pieces_by_pairs(table):
    """The pieces, by what places reach."""
    found = reaches(table)
    size = range(len(table))
    return sorted({tuple(other for other in size if other == one or {(one, other), (other, one)} <= found) for one in size})


def shuffled(rng, table):
    """The table with its places in another sequence."""
    places = rng.sample(range(len(table)), len(table))
    return tuple(tuple(table[one][other] for other in places) for one in places)


class Constants(unittest.TestCase):
    def test_constants(self):
        self.assertEqual([module.MAX_TIES, module.MAX_RAISED, module.MAX_FIGURES], [24, 1000, 10])


class Counts(WrongInputs):
    def test_drawn_stands(self):
        rng = drawn.dice(1)
        for number in range(40):
            stand = Stand(*drawn.parts(rng, 1 + number % 5)[:3])
            told = tuple(tuple(image.count(tie) + image.count(-tie) for tie in range(1, stand.size + 1)) for image in stand.images)
            self.assertEqual(counts(stand), told)
            road = drawn.road(rng, stand.web.ties, 0, 8)
            row = tuple(road.count(tie) + road.count(-tie) for tie in range(1, stand.size + 1))
            together = brute.put_together(stand.images, road)
            self.assertEqual(row_led(told, row), tuple(together.count(tie) + together.count(-tie) for tie in range(1, stand.size + 1)))
            self.assertEqual(weights_led(told, (1,) * stand.size), tuple(map(len, stand.images)))

    def test_wrong_inputs(self):
        self.assert_refuses(counts, (rose_stand(Turner.idle(2)),), [STAND])


class Leading(WrongInputs):
    def test_rows_and_weights(self):
        for rng, table in tables(2, 60):
            row = tuple(rng.choice([0, 1, -2, 7, 10 ** 60 - 1]) for _ in table)
            size = range(len(table))
            self.assertEqual(row_led(table, row), tuple(sum(row[i] * table[i][j] for i in size) for j in size))
            self.assertEqual(weights_led(table, row), tuple(sum(table[i][j] * row[j] for j in size) for i in size))

    def test_wrong_inputs(self):
        rows = STRANGE + [(), (1,), (1, 2, 3), [1, 2], (1, True), (1, None), (1, "2"), (1, 10 ** 60), (HUGE, 1), 1]
        for call in (row_led, weights_led):
            self.assert_refuses(call, (GOLD, (1, 2)), [TABLE, (InvalidTable, None, rows)])


class HangingTogether(WrongInputs):
    def test_drawn_tables(self):
        found = {True: 0, False: 0}
        for rng, table in tables(3, 150):
            told = does_hang(table)
            found[told] += 1
            self.assertIs(hangs_together(table), told)
            self.assertEqual(pieces_of(table), tuple(pieces_by_pairs(table)))
            if told:
                self.assertEqual(beat(table), self.told_beat(table))
            else:
                self.assert_raises_with(Refused, "reason", ("apart",), beat, table)
        self.assertTrue(min(found.values()) > 20)

    def told_beat(self, table):
        """The greatest common divisor of the powers at which the place 0 comes to itself."""
        ones = tuple(tuple(min(entry, 1) for entry in row) for row in table)
        power, found = ones, 0
        for many in range(1, 3 * len(table) ** 2 + 3):
            if power[0][0]:
                found = math.gcd(found, many)
            power = tuple(tuple(min(entry, 1) for entry in row) for row in times(power, ones))
        return found

    def test_beats_of_turned_places(self):
        for size in range(1, 25):
            table = tuple(tuple(int(other == (one + 1) % size) for other in range(size)) for one in range(size))
            self.assertEqual([beat(table), hangs_together(table), pieces_of(table)], [size, True, (tuple(range(size)),)])
        both = tuple(tuple(int(other == (one + 1) % 24 or (one, other) == (0, 16)) for other in range(24)) for one in range(24))
        self.assertEqual(beat(both), 3)

    def test_tables_of_one_row(self):
        self.assertEqual([hangs_together(((0,),)), hangs_together(((1,),)), beat(((3,),)), pieces_of(((0,),))], [False, True, 1, ((0,),)])
        self.assert_raises_with(Refused, "reason", ("apart",), beat, ((0,),))

    def test_wrong_inputs(self):
        for call in (hangs_together, pieces_of, beat, own_poly):
            self.assert_refuses(call, (GOLD,), [TABLE])


class Powers(WrongInputs):
    def test_drawn_tables(self):
        for rng, table in tables(4, 30):
            power = unit(len(table))
            for many in range(10):
                self.assertEqual(table_power(table, many), power)
                power = times(power, table)

    def test_far_powers(self):
        for rng, table in tables(16, 24):
            many = rng.randint(50, 1000)
            squares, power = table, unit(len(table))
            for place in range(many.bit_length()):
                if many >> place & 1:
                    power = times(power, squares)
                squares = times(squares, squares) if 2 << place <= many else squares
            self.assertEqual(table_power(table, many), power)
        for size in (1, 3, 24):
            nothing = tuple(tuple(int(other == one + 1) for other in range(size)) for one in range(size))
            self.assertEqual([table_power(nothing, size), table_power(nothing, 999), table_power(nothing, 0)],
                             [((0,) * size,) * size] * 2 + [unit(size)])
            self.assertEqual(table_power(nothing, size - 1)[0][size - 1], 1)
        turned = tuple(tuple(int(other == (one + 1) % 24) for other in range(24)) for one in range(24))
        self.assertEqual([table_power(turned, 1), table_power(turned, 961), table_power(turned, 960)], [turned, turned, unit(24)])

    def test_power_0_and_1000(self):
        self.assertEqual([table_power(((0,),), 0), table_power(((2,),), 1000), table_power(TURNED, 999)], [((1,),), ((2 ** 1000,),), TURNED])
        one, other = 0, 1
        for _ in range(1000):
            one, other = other, one + other
        self.assertEqual(table_power(GOLD, 1000)[0][1], one)
        most = (10 ** 60 - 1,)
        self.assertEqual(table_power((most,), 1000), ((most[0] ** 1000,),))

    def test_wrong_inputs(self):
        self.assert_refuses(table_power, (GOLD, 2), [TABLE, (InvalidNumber, "given", integers_but(0, 1000))])


class Polynomials(unittest.TestCase):
    def test_values_at_integers(self):
        for rng, table in tables(5, 60):
            found = own_poly(table)
            self.assertEqual((len(found), found[-1], type(found)), (len(table) + 1, 1, tuple))
            for number in range(-3, len(table)):
                rows = [[(number if one == other else 0) - entry for other, entry in enumerate(row)] for one, row in enumerate(table)]
                self.assertEqual(sum(entry * number ** place for place, entry in enumerate(found)), determinant(rows))

    def test_24_rows(self):
        table = tuple(tuple(int(other == (one + 1) % 24) for other in range(24)) for one in range(24))
        self.assertEqual(own_poly(table), (-1,) + (0,) * 23 + (1,))
        self.assertEqual(own_poly(((10 ** 60 - 1,) * 24,) * 24), (0,) * 23 + (-24 * (10 ** 60 - 1), 1))
        self.assertEqual(own_poly(((0,),)), (0, 1))


class Papers(WrongInputs):
    def assert_paper(self, table, fraction, paper):
        """The paper shows what it tells, by the test's own sums."""
        sort, row = paper
        self.assertEqual((len(row), min(row) > 0), (len(table), True))
        sums = [sum(many * entry for many, entry in zip(line, row)) for line in table]
        pairs = [(led * fraction[1], entry * fraction[0]) for led, entry in zip(sums, row)]
        self.assertTrue(all(one <= other if sort == "below" else one >= other for one, other in pairs))
        self.assertIs(is_rate_paper(table, fraction, paper), True)

    def test_drawn_tables(self):
        done = 0
        for rng, table in tables(6, 150):
            if not does_hang(table):
                self.assert_raises_with(Refused, "reason", ("apart",), rate_paper, table, (1, 1))
                self.assert_raises_with(Refused, "reason", ("apart",), is_rate_paper, table, (1, 1), None)
                continue
            rate = near_rate(table)
            for fraction in [(1, 1), (3, 2), (1, 10 ** 59), (10 ** 60 - 1, 1), *rate_bounds(table, 5), *rate_bounds(table, 10)]:
                if fraction[0] > 0:
                    paper = rate_paper(table, fraction)
                    self.assert_paper(table, fraction, paper)
                    if abs(fraction[0] / fraction[1] - rate) > 1e-4 * rate + 1e-6:
                        self.assertEqual(paper[0], "below" if fraction[0] / fraction[1] > rate else "above")
            done += 1
        self.assertGreater(done, 30)

    def test_drawn_papers_are_judged(self):
        found = {True: 0, False: 0}
        for rng, table in tables(15, 200, 4):
            if not does_hang(table) or max(map(max, table)) > 9:
                continue
            for _ in range(6):
                row = tuple(rng.randint(1, 4) for _ in table)
                fraction = rng.choice([(1, 1), (2, 1), (3, 2), (5, 3), (4, 1), (7, 2), (9, 1)])
                sums = [Fraction(sum(many * entry for many, entry in zip(line, row)), entry) for line, entry in zip(table, row)]
                low, high = min(sums), max(sums)
                for sort, told in [("below", high <= Fraction(*fraction)), ("above", low >= Fraction(*fraction))]:
                    self.assertIs(is_rate_paper(table, fraction, (sort, row)), told)
                    found[told] += 1
        self.assertTrue(min(found.values()) > 50)

    def test_both_sorts_exactly_at_the_rate(self):
        table = ((1, 2), (3, 2))
        self.assert_paper(table, (4, 1), rate_paper(table, (4, 1)))
        for sort in ("below", "above"):
            self.assertIs(is_rate_paper(table, (4, 1), (sort, (2, 3))), True)
        near = (4 * 10 ** 58 + 1, 10 ** 58)
        self.assertEqual([rate_paper(table, near)[0], rate_paper(table, (near[0] - 2, near[1]))[0]], ["below", "above"])
        for fraction in (near, (near[0] - 2, near[1])):
            self.assert_paper(table, fraction, rate_paper(table, fraction))

    def test_rates_that_are_near_great_integers(self):
        table = ((10 ** 30, 1), (1, 0))
        for fraction, sort in [((10 ** 30, 1), "above"), ((10 ** 30 + 1, 1), "below"), ((10 ** 59 + 1, 10 ** 29), "below")]:
            paper = rate_paper(table, fraction)
            self.assertEqual(paper[0], sort)
            self.assert_paper(table, fraction, paper)

    def test_24_rows(self):
        rng = drawn.dice(7)
        table = draw_table(rng, 24, 3, 0.4)
        low, high = rate_bounds(table, 10)
        for fraction in (low, high, (1, 7), (1000, 1)):
            self.assert_paper(table, fraction, rate_paper(table, fraction))
        turned = tuple(tuple(int(other == (one + 1) % 24) for other in range(24)) for one in range(24))
        self.assert_paper(turned, (1, 1), rate_paper(turned, (1, 1)))

    def test_values(self):
        self.assertIs(is_rate_paper(GOLD, (2, 1), ("below", (10 ** 5000, 10 ** 5000))), True)
        for value in [("below", (1,)), ("below", (1, 1, 1)), ("below", (1, 0)), ("below", (0, 0)), ("below", (-1, -1)), ("below", [1, 1]),
                      ("below", (True, True)), ("below", (1, 1), 1), ("below",), ["below", (1, 1)], ("Below", (1, 1)), ("above", (1, 1)),
                      ((1, 1), "below"), ("below", None), ("below", (1, None)), ("", (1, 1)), (None, (1, 1))]:
            self.assertIs(is_rate_paper(GOLD, (2, 1), value), False)
        self.assert_judges_strange(is_rate_paper, (GOLD, (2, 1)), [])

    def test_wrong_inputs(self):
        self.assert_refuses(rate_paper, (GOLD, (1, 2)), [TABLE, FRACTION])
        self.assert_refuses(is_rate_paper, (GOLD, (1, 2), None), [TABLE, FRACTION, None])
        self.assert_raises_with(InvalidOperation, None, None, rate_paper, STEPS, (0, 1))


class Comparing(WrongInputs):
    def test_drawn_tables(self):
        rng = drawn.dice(8)
        for _ in range(120):
            one, other = (draw_table(rng, rng.randint(1, 5), rng.choice([1, 2, 3]), rng.choice([0.3, 0.6])) for _ in range(2))
            first, second = near_rate(one), near_rate(other)
            found = compare_rates(one, other)
            self.assertEqual(compare_rates(other, one), -found)
            if abs(first - second) > 1e-3:
                self.assertEqual(found, 1 if first > second else -1)

    def test_equal_rates_of_unlike_tables(self):
        for rng, table in tables(9, 80):
            transposed = tuple(zip(*table))
            size = len(table)
            wide = tuple(row + tuple(rng.randint(0, 2) for _ in range(size)) for row in shuffled(rng, table)) + tuple(
                (0,) * size + row for row in transposed)
            for other in (table, shuffled(rng, table), transposed, wide, shuffled(rng, wide)):
                self.assertEqual(compare_rates(table, other), 0)
                self.assertEqual(compare_rates(other, wide), 0)
            low = rng.randint(0, size - 1)
            more = tuple(tuple(entry + (one == other == low) for other, entry in enumerate(row)) for one, row in enumerate(table))
            self.assertGreaterEqual(compare_rates(more, table), 0)
            if does_hang(table):
                self.assertEqual(compare_rates(more, wide), 1)
                square = times(table, table)
                self.assertEqual(compare_rates(square, table), compare_rates(table, ((1,),)))

    def test_equal_rates_of_tables_with_unlike_polynomials(self):
        # The rate of both is the root of z z - z - 1, or of z z z - z - 1.
        self.assertEqual(compare_rates(GOLD, ((0, 1, 0), (1, 1, 0), (1, 1, 0))), 0)
        self.assertEqual(compare_rates(GOLD, ((1, 1, 0, 0), (1, 0, 0, 0), (0, 0, 1, 1), (0, 0, 0, 1))), 0)
        plastic = ((0, 1, 0), (0, 0, 1), (1, 1, 0))
        # z z z z z - z z z z - 1 is (z z z - z - 1) (z z - z + 1).
        fifth = ((1, 0, 0, 0, 1), (1, 0, 0, 0, 0), (0, 1, 0, 0, 0), (0, 0, 1, 0, 0), (0, 0, 0, 1, 0))
        self.assertEqual(own_poly(fifth), (-1, 0, 0, 0, -1, 1))
        self.assertEqual([compare_rates(plastic, fifth), compare_rates(plastic, GOLD), compare_rates(fifth, ((1,),))], [0, -1, 1])
        twice = ((2, 1), (1, 2))
        self.assertEqual([compare_rates(twice, ((3,),)), compare_rates(twice, ((1, 2), (4, 1)))], [0, -1])

    def test_rates_near_one_another(self):
        great = 10 ** 30
        self.assertEqual([compare_rates(((great, 1), (1, 0)), ((great,),)), compare_rates(((great, 1), (1, 0)), ((great + 1,),)),
                          compare_rates(((great, 1), (1, 0)), ((great, 1), (2, 0))), compare_rates(((great, 2), (1, 0)), ((great, 1), (2, 0)))],
                         [1, -1, -1, 0])
        long = 10 ** 60 - 1
        self.assertEqual(compare_rates(((long, 1, 0), (0, long, 1), (1, 0, long)), ((long, 1), (0, long))), 1)
        self.assertEqual(compare_rates(((long, long), (long, long)), ((long, long), (long, long - 1))), 1)

    def test_pieces_powers_and_sums_of_rows(self):
        for rng, table in tables(14, 80):
            sums = [sum(row) for row in table]
            self.assertLessEqual(compare_rates(table, ((max(sums),),)), 0)
            self.assertGreaterEqual(compare_rates(table, ((min(sums),),)), 0)
            parts = [tuple(tuple(table[one][other] for other in piece) for one in piece) for piece in pieces_of(table)]
            self.assertEqual(max(compare_rates(part, table) for part in parts), 0)
            other = draw_table(rng, len(table), max(sums), 0.5)
            if max(map(max, table)) <= 9:
                # A power of both leaves them in their sequence.
                self.assertEqual(compare_rates(table_power(table, 3), table_power(other, 3)), compare_rates(table, other))
            if is_rate(table, (2, 1)):
                self.assertIs(is_rate(table_power(table, 5), (32, 1)), True)
            some_power = table_power(table, len(table))
            self.assertIs(is_rate(table, (0, 1)), not any(map(any, some_power)))
            if not is_rate(table, (0, 1)):
                self.assertGreaterEqual(compare_rates(table, ((1,),)), 0)
            if does_hang(table):
                single = all(sorted(row) == [0] * (len(row) - 1) + [1] for row in table)
                self.assertIs(is_rate(table, (1, 1)), single)

    def test_rates_0_and_1(self):
        nothing = ((0, 1, 5), (0, 0, 2), (0, 0, 0))
        for table in (((0,),), nothing, ((0,) * 24,) * 24):
            self.assertEqual([compare_rates(table, ((0,),)), compare_rates(table, ((1,),)), is_rate(table, (0, 1))], [0, -1, True])
        self.assertEqual([compare_rates(((1, 1), (0, 1)), TURNED), is_rate(((1, 9), (0, 1)), (1, 1))], [0, True])

    def test_24_rows_of_great_integers(self):
        rng = drawn.dice(10)
        table = draw_table(rng, 24, 10 ** 60 - 1, 0.8)
        other = tuple(tuple(entry - (one == place == 3 and entry > 0) for place, entry in enumerate(row)) for one, row in enumerate(table))
        self.assertEqual([compare_rates(table, tuple(zip(*table))), compare_rates(table, other)], [0, int(table != other)])

    def test_wrong_inputs(self):
        self.assert_refuses(compare_rates, (GOLD, STEPS), [TABLE, TABLE])


class Bounds(WrongInputs):
    def test_drawn_tables(self):
        for rng, table in tables(11, 100):
            rate = near_rate(table)
            for figures in (0, 1, 5, 10):
                bounds = rate_bounds(table, figures)
                low, high = (Fraction(*bound) for bound in bounds)
                self.assertEqual(bounds, ((low.numerator, low.denominator), (high.numerator, high.denominator)))
                self.assertTrue(0 <= high - low <= Fraction(1, 10 ** figures))
                if max(map(max, table)) <= 9:
                    self.assertTrue(low - Fraction(rate) < 1e-4 * rate + 1e-6 and Fraction(rate) - high < 1e-4 * rate + 1e-6)
                if does_hang(table) and low > 0:
                    # Papers, checked by the test's own sums, show that the rate is between both.
                    for bound, sort in zip(bounds, ("above", "below")):
                        paper = rate_paper(table, bound)
                        told, row = paper
                        sums = [sum(many * entry for many, entry in zip(line, row)) for line in table]
                        exact = all(led * bound[1] == entry * bound[0] for led, entry in zip(sums, row))
                        Papers.assert_paper(self, table, bound, paper)
                        self.assertTrue(told == sort or exact)
                self.assertIs(is_rate_bounds(table, figures, bounds), True)

    def test_whole_rates(self):
        for rng, table in tables(12, 40, 4):
            sums = max(map(sum, table))
            even = tuple((*row, sums - sum(row)) for row in table) + ((0,) * len(table) + (sums,),)
            for figures in (0, 10):
                for value, told in [(((sums, 1), (sums, 1)), True), (((sums - 1, 1), (sums, 1)), figures == 0),
                                    (((sums, 1), (sums + 1, 1)), figures == 0), (((sums + 1, 1), (sums + 1, 1)), False),
                                    (((sums - 1, 1), (sums - 1, 1)), False), (((sums * 10 ** 20 + 1, 10 ** 20), (sums + 1, 1)), False),
                                    (((sums * 10 ** 20 - 1, 10 ** 20), (sums * 10 ** 20 + 1, 10 ** 20)), True),
                                    (((sums * 10 ** 10, 10 ** 10), (sums, 1)), False), (((sums + 1, 1), (sums, 1)), False)]:
                    if told and sums * 10 ** 20 - 1 < 0 and value[0][0] < 0:
                        continue
                    self.assertIs(is_rate_bounds(even, figures, value), told, (even, figures, value))

    def test_values(self):
        gold = (10 ** 5000 * 8 + 1, 10 ** 5000 * 5)
        self.assertIs(is_rate_bounds(GOLD, 1, (gold, (17, 10))), math.gcd(*gold) == 1)
        self.assertIs(is_rate_bounds(GOLD, 0, ((-10 ** 5000, 1), (17, 10))), False)
        self.assertIs(is_rate_bounds(GOLD, 0, ((1, 1), (2, 1))), True)
        self.assertIs(is_rate_bounds(GOLD, 0, ((9, 10), (2, 1))), False)
        for value in [((8, 5),), ((8, 5), (17, 10), (17, 10)), [(8, 5), (17, 10)], ((8, 5), [17, 10]), ((16, 10), (17, 10)), ((8, 5), None),
                      ((17, 10), (8, 5)), ((8, 5), (34, 20)), (8, 5), ((8, 5), (-17, -10)), ((True, 1), (2, 1)), ((1, True), (2, 1))]:
            self.assertIs(is_rate_bounds(GOLD, 0, value), False)
        self.assert_judges_strange(is_rate_bounds, (GOLD, 3), [])

    def test_wrong_inputs(self):
        figures = (InvalidNumber, "given", integers_but(0, 10))
        self.assert_refuses(rate_bounds, (GOLD, 3), [TABLE, figures])
        self.assert_refuses(is_rate_bounds, (GOLD, 3, None), [TABLE, figures, None])


class WholeRates(WrongInputs):
    def test_drawn_tables(self):
        for rng, table in tables(13, 100):
            rate = near_rate(table)
            whole = round(rate)
            poly = own_poly(table)
            is_root = sum(entry * whole ** place for place, entry in enumerate(poly)) == 0
            told = is_root and abs(rate - whole) < 1e-3 * max(1, rate)
            self.assertIs(is_rate(table, (whole, 1)), told)
            for fraction in [(2 * whole + 1, 2), (whole + 1, 1), (1, 3)]:
                self.assertIs(is_rate(table, fraction), False)

    def test_roots_that_are_not_the_rate(self):
        # The roots are 3 and 1, and 2 and -2 and 1.
        self.assertEqual([is_rate(((2, 1), (1, 2)), (root, 1)) for root in (1, 2, 3)], [False, False, True])
        table = ((0, 4, 0), (1, 0, 0), (0, 0, 1))
        self.assertEqual([is_rate(table, (root, 1)) for root in (0, 1, 2)], [False, False, True])

    def test_wrong_inputs(self):
        self.assert_refuses(is_rate, (GOLD, (1, 1)), [TABLE, (InvalidOperation, None, WRONG_FRACTIONS)])


class Small(unittest.TestCase):
    def test_all_tables_of_two_rows(self):
        """Rates of tables of two rows are roots of a polynomial of the degree 2: they are compared by its discriminant."""
        found = {}
        for a, b, c, d in itertools.product(range(3), repeat=4):
            found[(a, b), (c, d)] = (a + d, (a - d) ** 2 + 4 * b * c)
        rows = list(found)[::2]
        for one, other in itertools.product(rows, repeat=2):
            (first, under), (second, below) = found[one], found[other]
            told = self.compare(first - second, under, below)
            self.assertEqual(compare_rates(one, other), told)

    def compare(self, number, one, other):
        """The sign of a number and the root of one less that of the other."""
        unit = 10 ** 30
        value = number * unit + math.isqrt(one * unit * unit) - math.isqrt(other * unit * unit)
        return 0 if abs(value) < 100 else 1 if value > 0 else -1
