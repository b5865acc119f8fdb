"""What the modules share: rows compared from behind, sides, and images with a bound on their length."""

import unittest

import brute
import drawn
from noroadback.base.rows import common_end, times
from noroadback.base.sides import put_behind, row_of, sides_of, single_rows, text_of, told_row
from noroadback.base.squares import row_behind, square_product, unit
from noroadback.turns.forms import cross, kept_row, row_beside, undone_square
from noroadback.turns.images import images_behind, images_leading, images_to_power, images_undone
from noroadback.turns.turning import rows_turned, word_by


class Rows(unittest.TestCase):
    def test_common_ends(self):
        rng = drawn.dice(1)
        for size in list(range(20)) + [63, 64, 65, 100, 1000]:
            end = [rng.choice([1, 2]) for _ in range(size)]
            self.assertEqual(row_of(text_of(end)), tuple(end))
            for one, other in [([], []), ([], [1]), ([1], []), ([1], [2]), ([2] * 40, [1] * 40), ([1], [2, 2, 2])]:
                self.assertEqual(common_end(one + end, other + end), size)
                self.assertEqual(common_end(text_of(other + end), text_of(one + end)), size)

    def test_products_of_two_words(self):
        rng = drawn.dice(2)
        for _ in range(200):
            one, other = drawn.word(rng, 2, 6), drawn.word(rng, 2, 6)
            self.assertEqual(times(one, other), brute.times(one, other))
            self.assertEqual(times(one, brute.back(one)), ())


class Sides(unittest.TestCase):
    def test_rows_put_behind_one_another(self):
        rng = drawn.dice(3)
        for _ in range(30):
            words = {number: drawn.word(rng, 2, 5) for number in (1, 2, 3)}
            sides = sides_of(tuple(words.values()))
            for _ in range(10):
                goal, piece = (rng.choice([1, -1]) * number for number in rng.sample((1, 2, 3), 2))
                put_behind(sides, goal, piece)
                tail = words[piece] if piece > 0 else brute.back(words[-piece])
                if goal > 0:
                    words[goal] = brute.times(words[goal], tail)
                else:
                    words[-goal] = brute.times(brute.back(tail), words[-goal])
                for number, word in words.items():
                    self.assertEqual((row_of(sides[number]), row_of(sides[-number])), (word, brute.back(word)))

    def test_told_rows(self):
        rng = drawn.dice(4)
        for _ in range(50):
            words = drawn.words(rng, 3, 1, 5, 6)
            way = drawn.way(rng, len(words), 12)
            self.assertEqual(told_row(sides_of(words), way), brute.told(words, way))
        self.assertEqual(single_rows(3), ((1,), (2,), (3,)))

    def test_told_rows_stop_where_they_are_long_enough(self):
        sides = sides_of(((1,) * 100, (2,)))
        for way in [(1,) * 1024, (2,) * 512 + (1,) * 512]:
            part = told_row(sides, way, 150)
            self.assertTrue(150 < len(part) <= 512)
        for way in [(1,), (2,) * 150, (1, 2, 2), (1, -1) * 500, ()]:
            self.assertEqual(told_row(sides, way, 150), told_row(sides, way))
        for way in [(1, 1, 2, 2), (2, 2, 1, 1)]:
            self.assertEqual(told_row(sides, way, 150), (1,) * 200)
        self.assertEqual(told_row(sides, (1, 1), 100), (1,) * 200)


class Bounds(unittest.TestCase):
    """None is returned exactly for what is longer than the most, also where a beginning is much longer."""

    def assert_bounded(self, told, call, *given):
        length = brute.length(told)
        for most in {len(told), length // 2 + len(told), length - 1, length, length + 1, 10 * length}:
            self.assertEqual(call(*given, most), told if length <= most else None)

    def test_images_behind_one_another(self):
        rng = drawn.dice(5)
        for number in range(60):
            one, other = (drawn.images(rng, 1 + number % 5, 12, 12) for _ in range(2))
            undone = images_undone(one, 10 ** 9)
            for first, second in [(one, other), (one, undone), (undone, one), (undone, brute.behind(one, other))]:
                self.assert_bounded(brute.behind(first, second), images_behind, first, second)

    def test_images_undone(self):
        rng = drawn.dice(6)
        for number in range(100):
            images = drawn.images(rng, 1 + number % 5, 14, 12)
            undone = images_undone(images, 10 ** 9)
            self.assertEqual(brute.behind(images, undone), brute.idle(len(images)))
            self.assert_bounded(undone, images_undone, images)

    def test_images_of_powers(self):
        self.assertEqual(images_to_power(((1, 2), (1,)), 3, 8), ((1, 2, 1, 1, 2), (1, 2, 1)))
        self.assertIsNone(images_to_power(((1, 2), (1,)), 3, 7))
        self.assertIsNone(images_to_power(((1, 2), (1,)), 1, 2))

    def test_images_leading(self):
        rng = drawn.dice(7)
        for number in range(60):
            letters = 1 + number % 5
            rows, images = drawn.images(rng, letters, 10, 8), drawn.images(rng, letters, 10, 8)
            goals = brute.behind(images, rows)
            self.assertEqual(images_leading(rows, goals), images)
        # The goals can have other letters.
        self.assertEqual(images_leading(((2,), (1, 2)), ((24, -7), (5,))), ((5, 7, -24), (24, -7)))


class Turning(unittest.TestCase):
    def test_words_between_rows(self):
        rng = drawn.dice(8)
        for number in range(100):
            letters = 2 + number % 4
            rows = drawn.images(rng, letters, 12, 10)
            root = rng.choice(rows)
            by = brute.times(drawn.word(rng, letters, 4), brute.raised(root, rng.randint(-9, 9)))
            turned = rows_turned(rows, by)
            self.assertEqual(turned, tuple(brute.turned(row, by) for row in rows))
            self.assertEqual(word_by(rows, turned), by)


class Squares(unittest.TestCase):
    def test_products(self):
        rng = drawn.dice(9)
        for size in range(1, 7):
            one, other = (tuple(tuple(rng.randint(-9, 9) for _ in range(size)) for _ in range(size)) for _ in range(2))
            told = tuple(tuple(sum(one[row][k] * other[k][column] for k in range(size)) for column in range(size)) for row in range(size))
            self.assertEqual(square_product(one, other), told)
            self.assertEqual(row_behind(one[0], other), told[0])
            self.assertEqual([square_product(one, unit(size)), square_product(unit(size), one)], [one, one])

    def test_rows_of_two(self):
        for row in [(1, 0), (0, 1), (-1, 0), (0, -1), (3, 5), (-7, 4), (12, -5), (1, 1)]:
            self.assertEqual(cross(row_beside(row), row), 1)
        for table in [((1, 1), (1, 0)), ((2, 1), (1, 1)), ((0, -1), (1, 5))]:
            self.assertEqual(square_product(table, undone_square(table)), unit(2))
        self.assertEqual([kept_row(((1, 3), (0, 1)), 1), kept_row(((-1, 0), (4, -1)), -1)], [(0, -1), (1, 0)])
