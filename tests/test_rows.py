"""Promises [16.1] to [16.4]: rows of ties in far images, and the ties at their places."""

import brute
import drawn
import never
from noroadback.errors import InvalidNumber, InvalidOperation, InvalidRoad, Refused, TooMany
from noroadback.rates.tables import compare_rates, counts, hangs_together, table_power
from noroadback.search import rows as module
from noroadback.search.rows import next_ties, row_numbers, rows_in, tie_at
from noroadback.turns.turners import Turner
from noroadback.webs.stands import Stand, rose_stand
from wrong import ROAD, STAND, WrongInputs, directed_but, integers_but

ROSE = rose_stand(Turner(((1, 2), (1,))))
LATE = rose_stand(Turner(((1, 2), (-1,))))
PLAIN = rose_stand(Turner(((1,), (2, 1))))
HALF = Stand(((0, 1), (0, 0), (1, 0)), ((1,), (2,), ()), ((1, 3), (1, 3), (2,)))
TIE = (InvalidNumber, "given", directed_but(3))


def windows(row, length):
    """All parts of a row with so many entries."""
    return {row[place:place + length] for place in range(len(row) - length + 1)}


def row_sets(stand, tie, most):
    """All rows to a length: those of the first image, of the images of all of these, and so on."""
    found = set().union(*[windows(brute.put_together(stand.images, (tie,)), length) for length in range(1, most + 1)])
    size = -1
    while len(found) > size:
        size = len(found)
        for row in list(found):
            image = brute.put_together(stand.images, row)
            found |= set().union(*[windows(image, length) for length in range(1, most + 1)])
    return {length: tuple(sorted(row for row in found if len(row) == length)) for length in range(1, most + 1)}


def wide(many):
    """A stand whose last tie has very many rows: a drawn road of so many ties, and what powers lead it to."""
    rng = drawn.dice(1)
    ahead = (4,) * 6 + tuple(rng.choice((1, 2, 3, 4)) for _ in range(many))
    return Stand(((0, 0),) * 5, brute.idle(5), ((2,), (3,), (-1,), (-4,), (1, 5) + ahead))


def image_number(stand, tie, many):
    """The image of a tie with a number."""
    image = (tie,)
    for _ in range(many):
        image = brute.put_together(stand.images, image)
    return image


class Constants(WrongInputs):
    def test_constants(self):
        self.assertEqual([module.MAX_LENGTH, module.MAX_ROWS, module.MAX_POWER], [6, 2000, 200])


class Rows(WrongInputs):
    def test_drawn_stands(self):
        for rng, stand in never.stands(1, 120, 12, 8):
            tie, most = rng.choice(brute.entries(stand.size)), rng.randint(1, 5)
            told = row_sets(stand, tie, most)
            for length in range(1, most + 1):
                self.assertEqual(rows_in(stand, tie, length), told[length])
                self.assertEqual(rows_in(stand, -tie, length), tuple(sorted(map(brute.back, told[length]))))
            self.assertEqual(row_numbers(stand, tie, most), tuple(map(len, told.values())))

    def test_rows_stand_in_images(self):
        for rng, stand in never.stands(2, 60, 10, 6):
            tie, length = rng.choice(brute.entries(stand.size)), rng.randint(1, 6)
            image, found = (tie,), set()
            for _ in range(12):
                if len(image) < 20000:
                    image = brute.put_together(stand.images, image)
                    found |= windows(image, length)
            self.assertLessEqual(found, set(rows_in(stand, tie, length)))

    def test_rows_of_1_and_6_ties_and_others(self):
        self.assertEqual([len(rows_in(ROSE, 1, 6)), row_numbers(ROSE, 1, 6), row_numbers(ROSE, 1, 1)], [7, (2, 3, 4, 5, 6, 7), (2,)])
        for length in (0, 7, -1):
            self.assert_raises_with(InvalidNumber, "given", length, rows_in, ROSE, 1, length)
            self.assert_raises_with(InvalidNumber, "given", length, row_numbers, ROSE, 1, length)

    def test_ties_without_rows_of_a_length(self):
        self.assertEqual([rows_in(PLAIN, 1, 1), rows_in(PLAIN, 1, 2), row_numbers(PLAIN, 1, 4)], [((1,),), (), (1, 0, 0, 0)])
        self.assertEqual([rows_in(PLAIN, 2, 3), next_ties(PLAIN, 1, (1,))], [((1, 1, 1), (2, 1, 1)), ()])
        flip = rose_stand(Turner(((-1,),)))
        self.assertEqual([rows_in(flip, 1, 1), rows_in(flip, 1, 2)], [((-1,), (1,)), ()])

    def test_tables_that_hang_together(self):
        for rng, stand in never.stands(3, 80, 12, 7):
            if not hangs_together(counts(stand)):
                continue
            most = 4
            for length in range(1, most + 1):
                told = {frozenset(rows_in(stand, tie, length) + rows_in(stand, -tie, length)) for tie in range(1, stand.size + 1)}
                self.assertEqual(len(told), 1)
            if compare_rates(counts(stand), ((1,),)) == 1:
                numbers = row_numbers(stand, 1, most + 1)
                for length in range(1, most + 1):
                    rows = rows_in(stand, 1, length)
                    ways = [next_ties(stand, 1, row) for row in rows]
                    self.assertTrue(min(map(len, ways)) > 0)
                    self.assertEqual(numbers[length] > numbers[length - 1], max(map(len, ways)) > 1)

    def test_more_than_2000_rows(self):
        for many, told in [(345, 1994), (346, 2000), (347, 2006)]:
            stand = wide(many)
            numbers = [len(rows) for rows in row_sets(stand, 5, 6).values()]
            self.assertEqual([max(numbers[:5]) < 2000, numbers[5]], [True, told])
            for length in range(1, 7):
                if numbers[length - 1] <= 2000:
                    self.assertEqual(row_numbers(stand, 5, length), tuple(numbers[:length]))
                    self.assertEqual(len(rows_in(stand, -5, length)), numbers[length - 1])
                    continue
                for call in (rows_in, row_numbers):
                    self.assert_raises_with(TooMany, "most", 2000, call, stand, 5, length)
                self.assert_raises_with(TooMany, "most", 2000, next_ties, stand, 5, (1,) * (length - 1))
            self.assertEqual(rows_in(stand, 1, 1), ((-3,), (-2,), (-1,), (1,), (2,), (3,)))

    def test_long_images(self):
        long = rose_stand(Turner(((1, 2), (1,))).power(20))
        self.assertEqual([rows_in(long, 1, 6), row_numbers(long, -1, 6)], [rows_in(ROSE, 1, 6), (2, 3, 4, 5, 6, 7)])
        self.assertEqual([tie_at(long, 1, 200, place) for place in range(40)], [tie_at(ROSE, 1, 200, place) for place in range(40)])

    def test_stands_that_turn_back(self):
        for stand in list(never.turning_back(5, 40))[:10] + [LATE]:
            for call, rest in [(rows_in, (1, 2)), (row_numbers, (1, 2)), (next_ties, (1, (1,))), (tie_at, (1, 3, 10 ** 50))]:
                self.assert_raises_with(Refused, "reason", ("back",), call, stand, *rest)
        self.assert_raises_with(InvalidNumber, "given", 0, rows_in, LATE, 0, 7)
        self.assert_raises_with(InvalidNumber, "given", 7, rows_in, LATE, 1, 7)
        self.assert_raises_with(InvalidRoad, None, None, next_ties, LATE, 1, ())

    def test_wrong_inputs(self):
        length = (InvalidNumber, "given", integers_but(1, 6))
        for call in (rows_in, row_numbers):
            self.assert_refuses(call, (HALF, 1, 3), [STAND, TIE, length])


class NextTies(WrongInputs):
    def test_drawn_stands(self):
        for rng, stand in never.stands(6, 100, 12, 8):
            tie, length = rng.choice(brute.entries(stand.size)), rng.randint(1, 4)
            rows = row_sets(stand, tie, length + 1)[length + 1]
            for road in [row[:-1] for row in rows[:20]] + [never.tight_road(rng, stand, length), never.open_road(rng, stand, length)]:
                if len(road) == length:
                    told = {row[-1] for row in rows if row[:-1] == road}
                    self.assertEqual(next_ties(stand, tie, road), tuple(sorted(told)))

    def test_roads_of_5_ties_and_6(self):
        self.assertEqual([next_ties(ROSE, 1, (1, 2, 1, 1, 2)), next_ties(ROSE, 1, (2,)), next_ties(ROSE, -1, (-2,))], [(1,), (1,), (-1,)])
        for road in [(1, 2, 1, 1, 2, 1), (), (1, -1), (1,) * 7]:
            self.assert_raises_with(InvalidRoad, None, None, next_ties, ROSE, 1, road)
        self.assert_raises_with(InvalidRoad, None, None, next_ties, HALF, 1, (1, 1))

    def test_wrong_inputs(self):
        self.assert_refuses(next_ties, (HALF, 1, (1, 3)), [STAND, TIE, ROAD])


class Places(WrongInputs):
    def test_small_images_one_by_one(self):
        for rng, stand in never.stands(7, 60, 10, 8):
            tie = rng.choice(brute.entries(stand.size))
            image = (tie,)
            for power in range(7):
                if len(image) < 300:
                    self.assertEqual(tuple(tie_at(stand, tie, power, place) for place in range(len(image))), image)
                    self.assert_raises_with(InvalidOperation, None, None, tie_at, stand, tie, power, len(image))
                    image = brute.put_together(stand.images, image)

    def test_great_images_by_their_lengths(self):
        for rng, stand in never.stands(8, 60, 12, 8):
            tie, power = rng.choice(brute.entries(stand.size)), rng.randint(30, 200)
            table = table_power(counts(stand), power)
            size = sum(table[abs(tie) - 1])
            places = [place for place in (0, 1, 2, size - 1, rng.randrange(size)) if place < size and place < 10 ** 60]
            for place in places:
                found = tie_at(stand, tie, power, place)
                self.assertEqual(tie_at(stand, -tie, power, size - 1 - place) if size - 1 - place < 10 ** 60 else -found, -found)
            if size < 10 ** 60:
                self.assert_raises_with(InvalidOperation, None, None, tie_at, stand, tie, power, size)

    def test_an_image_of_images(self):
        # The image number a + b is the images number a of all ties of the image number b.
        for rng, stand in never.stands(9, 40, 8, 6):
            tie, one, other = rng.choice(brute.entries(stand.size)), rng.randint(0, 30), rng.randint(0, 3)
            table, passed = table_power(counts(stand), one), 0
            for entry in image_number(stand, tie, other)[:50]:
                size = sum(table[abs(entry) - 1])
                for place in {0, size - 1, rng.randrange(size)}:
                    if passed + place < 10 ** 60:
                        self.assertEqual(tie_at(stand, tie, one + other, passed + place), tie_at(stand, entry, one, place))
                passed += size

    def test_powers_0_and_200_and_others(self):
        self.assertEqual([tie_at(ROSE, 2, 0, 0), tie_at(ROSE, -2, 0, 0), tie_at(ROSE, 1, 200, 0), tie_at(ROSE, -1, 200, 0)], [2, -2, 1, -1])
        for power in (-1, 201):
            self.assert_raises_with(InvalidNumber, "given", power, tie_at, ROSE, 1, power, 0)
        size = sum(table_power(counts(ROSE), 200)[0])
        self.assertEqual([tie_at(ROSE, 1, 200, size - 1), tie_at(ROSE, 1, 200, size - 2)], [1, 2])
        self.assert_raises_with(InvalidOperation, None, None, tie_at, ROSE, 1, 200, size)
        self.assert_raises_with(InvalidOperation, None, None, tie_at, ROSE, 1, 0, 1)

    def test_wrong_inputs(self):
        power = (InvalidNumber, "given", integers_but(0, 200))
        place = (InvalidNumber, "given", integers_but(0, 10 ** 60 - 1))
        self.assert_refuses(tie_at, (HALF, 1, 3, 1), [STAND, TIE, power, place])
        self.assert_raises_with(InvalidOperation, None, None, tie_at, HALF, 1, 3, 10 ** 60 - 1)
