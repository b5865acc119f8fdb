"""What the rates share: greatest roots of polynomials, told exactly."""

import math
import unittest
from fractions import Fraction

import drawn
from noroadback.rates.roots import (
    common_factor, compare_greatest, compare_root, derived, divided, refined, root_above, simple_part,
)
from noroadback.rates.tables import own_poly
from test_tables import draw_table


def product(*polys):
    """The product of polynomials, the lowest power first."""
    found = (1,)
    for poly in polys:
        row = [0] * (len(found) + len(poly) - 1)
        for place, number in enumerate(found):
            for other, told in enumerate(poly):
                row[place + other] += number * told
        found = tuple(row)
    return found


def with_roots(*roots):
    """The polynomial with told roots."""
    return product(*[(-root, 1) for root in roots])


class Roots(unittest.TestCase):
    def test_comparing_with_fractions(self):
        rng = drawn.dice(1)
        for _ in range(100):
            roots = [rng.randint(-3, 9) for _ in range(rng.randint(1, 5))]
            greatest = max(roots + [3])
            poly = with_roots(*roots, 3)
            for top, bottom in [(greatest, 1), (greatest - 1, 1), (greatest + 1, 1), (2 * greatest - 1, 2), (2 * greatest + 1, 2), (-5, 1),
                                (3 * 10 ** 40 * greatest + 1, 3 * 10 ** 40), (3 * 10 ** 40 * greatest - 1, 3 * 10 ** 40)]:
                difference = Fraction(greatest) - Fraction(top, bottom)
                self.assertEqual(compare_root(poly, top, bottom), (difference > 0) - (difference < 0))

    def test_the_least_number_above(self):
        golden = (-1, -1, 1)
        for bits in (0, 1, 5, 40, 200):
            found = root_above(golden, 2, bits)
            # The root of 5, so many bits behind the point, and rounded up.
            told = (2 ** bits + math.isqrt(5 * 4 ** bits) + 1 + 1) // 2
            self.assertIn(found, (told, told - 1))
            self.assertTrue(compare_root(golden, found, 2 ** bits) < 0 < compare_root(golden, found - 1, 2 ** bits))
            self.assertEqual(refined(golden, root_above(golden, 2, 0), 0, bits), found)
        self.assertEqual([root_above((-3, 1), 3, 0), root_above((-3, 1), 50, 3), root_above((0, 1), 0, 4), root_above((0, 0, 1), 7, 4)],
                         [3, 24, 0, 0])

    def test_quotients(self):
        rng = drawn.dice(2)
        for _ in range(60):
            one = tuple(rng.randint(-5, 5) for _ in range(rng.randint(0, 4))) + (rng.randint(1, 3),)
            other = tuple(rng.randint(-5, 5) for _ in range(rng.randint(0, 3))) + (1,)
            quotient, rest = divided(one, other)
            found = list(product(quotient, other)) if quotient else []
            found += [0] * (len(one) - len(found))
            self.assertEqual([number + (rest[place] if place < len(rest) else 0) for place, number in enumerate(found)], list(one))
            self.assertTrue(len(rest) < max(1, len(other)) + (len(one) < len(other)) * len(one) and (rest == () or rest[-1] != 0))

    def test_common_factors(self):
        rng = drawn.dice(3)
        for _ in range(80):
            pools = [[rng.randint(-4, 6) for _ in range(rng.randint(0, 4))] for _ in range(3)]
            one, other = pools[0] + pools[1], pools[0] + pools[2]
            common, left = [], list(other)
            for root in one:
                if root in left:
                    left.remove(root)
                    common.append(root)
            self.assertEqual(common_factor(with_roots(*one), with_roots(*other), 10), with_roots(*common))
            self.assertEqual(simple_part(with_roots(*one), 10), with_roots(*sorted(set(one))))
        self.assertEqual([derived((5, 3, 2, 1)), derived((1,))], [(3, 4, 3), ()])

    def test_common_factors_with_great_numbers(self):
        rng = drawn.dice(4)
        for _ in range(10):
            shared = own_poly(draw_table(rng, 6, 10 ** 60 - 1, 1))
            one, other = (own_poly(draw_table(rng, 5, 10 ** 60 - 1, 1)) for _ in range(2))
            most = 24 * 10 ** 60
            found = common_factor(product(shared, one), product(shared, other), most)
            self.assertEqual((divided(found, shared)[1], len(found)), ((), len(shared)))

    def test_comparing_greatest_roots(self):
        golden = (-1, -1, 1)
        for one, other, told in [
            (golden, golden, 0), (golden, product(golden, (0, 1)), 0), (product(golden, golden), product(golden, (0, 1), (1, 1)), 0),
            (golden, (-2, 1), -1), (product(golden, (-1, 1)), product((-1, 1), (-2, 1)), -1), (product(golden, (-2, 1)), product(golden, (-1, 1)), 1),
            (with_roots(2, 1), with_roots(2, 0), 0), (with_roots(2, 2, 1), with_roots(2, -1, 0, 0), 0), (with_roots(3, 2), with_roots(2, 2), 1),
            ((0, 1), (0, 0, 1), 0), ((0, 1), (-1, 1), -1), (golden, product(golden, (-3, 0, 1)), -1),
            (product(golden, (-3, 0, 1)), product(golden, (-3, 0, 1), (0, 1)), 0), (product(golden, (-3, 0, 1)), product(golden, (-1, 1)), 1),
        ]:
            self.assertEqual([compare_greatest(one, other, 5), compare_greatest(other, one, 5)], [told, -told])
