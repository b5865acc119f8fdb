"""Promises [19.1] to [19.6]: orders, rims, handles, twists, and turners that keep the rims."""

import brute
import drawn
from noroadback.errors import InvalidNumber, InvalidOperation, InvalidOrder, InvalidTurner
from noroadback.rates.tables import compare_rates, counts
from noroadback.rims import rims as module
from noroadback.rims.rims import handle_number, is_order, is_rims_paper, rims, rims_paper, twist, twisted
from noroadback.search.search import search_paper
from noroadback.turns.alike import alike_word, turned_by
from noroadback.turns.turners import Turner
from noroadback.turns.two import commutator_sign
from wrong import LETTERS, STRANGE, TURNER, WrongInputs

GROW, PLAIN = Turner(((1, 2), (1,))), Turner(((1,), (2, 1)))
HANDLE, DISK = (1, 2, -1, -2), (1, -1, 2, -2)
WRONG_ORDERS = STRANGE + [
    (), (1,), (1, 2, -1), (1, 2, -1, 1), (1, 2, -1, -2, 1), (1, 2, -1, -3), (0, 1, 2, -1), (1, 2, -1, "-2"), (1, 2, -1, None), [1, 2, -1, -2],
    (True, 2, -1, -2), (1, 2, -1, (-2,)), (1, 2, -1, -2, 3, -3), (1, 2, -1, 10 ** 60), "12", 0, 1, {1: 2},
]
ORDER = (InvalidOrder, None, WRONG_ORDERS)


def order(rng, letters):
    """A drawn order."""
    row = brute.entries(letters)
    rng.shuffle(row)
    return tuple(row)


def orders(seed, many):
    """Drawn orders of one to five letters."""
    rng = drawn.dice(seed)
    for number in range(many):
        letters = 1 + number % 5
        yield rng, letters, order(rng, letters)


def told_rims(row):
    """All rims, each one as the row of its steps, begun at its least entry."""
    found = []
    for entry in sorted(row):
        rim, step = [], entry
        while not rim or step != entry:
            rim.append(step)
            step = (row + row)[row.index(-step) + 1]
        if min(rim) == entry:
            found.append(tuple(rim))
    return found


def told_twist(letters, row, entry):
    """The images of a twist, by the words of the document."""
    turned = (row + row)[row.index(entry) + 1:]
    sides = turned[:turned.index(-entry)]
    images = []
    for letter in range(1, letters + 1):
        image = ((entry,) if letter in sides else ()) + (letter,) + ((-entry,) if -letter in sides else ())
        images.append((letter,) if letter == abs(entry) else image)
    return tuple(images)


def twist_row(rng, letters, most):
    """A drawn row of at most so many pairs of a letter and of an integer."""
    return tuple((rng.choice(brute.entries(letters)), rng.randint(-3, 3)) for _ in range(rng.randint(0, most)))


def told_product(letters, row, pairs):
    """The product of the powers of twists, by the test's own products."""
    turner = brute.idle(letters)
    for entry, times in pairs:
        images = told_twist(letters, row, entry)
        for _ in range(abs(times)):
            turner = brute.behind(turner, images if times > 0 else brute.undone(images))
    return turner


def led_goals(letters, row, turner, sign):
    """The list of the indices to which the rims, or to whose contraries, they are led, None for others."""
    rings = [rim if sign == 1 else brute.ring(brute.back(rim)) for rim in rims(letters, row)]
    found = [brute.ring(brute.told(turner.images, rim)) for rim in rims(letters, row)]
    return [rings.index(ring) if ring in rings else None for ring in found]


class Orders(WrongInputs):
    def test_constants(self):
        self.assertEqual(module.MOST_TWISTS, 8)

    def test_drawn_orders(self):
        for rng, letters, row in orders(1, 40):
            self.assertIs(is_order(letters, row), True)
            for other in range(1, 6):
                self.assertIs(is_order(other, row), other == letters)
            place = rng.randrange(len(row))
            for near in [row[:place] + row[place + 1:], row + row[:1], row[:place] + (row[place - 1],) + row[place + 1:],
                         row[:place] + (0,) + row[place + 1:], row[:place] + (letters + 1,) + row[place + 1:], list(row), row[:-1] + (10 ** 5000,)]:
                self.assertIs(is_order(letters, near), False)

    def test_wrong_inputs(self):
        self.assert_refuses(is_order, (2, None), [LETTERS, None])
        self.assert_judges_strange(is_order, (2,), [])
        for value in WRONG_ORDERS:
            self.assertIs(is_order(2, value), False)
        self.assertEqual([is_order(1, (1, -1)), is_order(1, (-1, 1)), is_order(1, (True, -1)), is_order(1, (1, 1))], [True, True, False, False])


class Rims(WrongInputs):
    def test_drawn_orders(self):
        numbers = set()
        for rng, letters, row in orders(2, 200):
            told = told_rims(row)
            found = rims(letters, row)
            self.assertEqual(found, tuple(sorted(min(brute.rotations(rim)) for rim in told)))
            self.assertEqual(sorted(entry for rim in found for entry in rim), brute.entries(letters))
            self.assertTrue(all(one + other for rim in found for one, other in zip(rim, rim[1:] + rim[:1])))
            handles = handle_number(letters, row)
            self.assertEqual(2 * handles, letters + 1 - len(found))
            self.assertTrue(type(handles) is int and handles >= 0)
            numbers.add((letters, handles))
        self.assertTrue(numbers >= {(1, 0), (2, 0), (2, 1), (3, 1), (4, 2), (5, 0), (5, 2)}, numbers)

    def test_orders_begun_elsewhere_read_backwards_and_renamed(self):
        for rng, letters, row in orders(3, 80):
            place = rng.randrange(len(row))
            found = rims(letters, row)
            self.assertEqual(rims(letters, row[place:] + row[:place]), found)
            self.assertEqual(rims(letters, row[::-1]), tuple(sorted(brute.ring(brute.back(rim)) for rim in found)))
            names = rng.sample(range(1, letters + 1), letters)
            signs = [rng.choice([1, -1]) for _ in names]

            def renamed(entries):
                return tuple(names[abs(entry) - 1] * signs[abs(entry) - 1] * (1 if entry > 0 else -1) for entry in entries)

            self.assertEqual(rims(letters, renamed(row)), tuple(sorted(brute.ring(renamed(rim)) for rim in found)))
            self.assertEqual(handle_number(letters, renamed(row)), handle_number(letters, row))

    def test_one_letter(self):
        self.assertEqual([rims(1, (1, -1)), rims(1, (-1, 1)), handle_number(1, (1, -1))], [((-1,), (1,)), ((-1,), (1,)), 0])

    def test_wrong_inputs(self):
        self.assert_refuses(rims, (2, HANDLE), [LETTERS, ORDER])
        self.assert_refuses(handle_number, (2, HANDLE), [LETTERS, ORDER])


class Twists(WrongInputs):
    def test_drawn_orders(self):
        for rng, letters, row in orders(4, 120):
            for entry in row:
                found = twist(letters, row, entry)
                self.assertEqual(found.images, told_twist(letters, row, entry))
                for rim in rims(letters, row):
                    self.assertEqual(brute.ring(found(rim)), rim)
                self.assertIsNotNone(alike_word(found, twist(letters, row, -entry)))

    def test_twists_that_can_be_exchanged(self):
        kinds = set()
        for rng, letters, row in orders(5, 120):
            one, other = rng.choice(row), rng.choice(row)
            turned = (row + row)[row.index(one) + 1:]
            sides = turned[:turned.index(-one)]
            both = [entry in sides for entry in (other, -other)]
            first, second = twist(letters, row, one), twist(letters, row, other)
            if both[0] == both[1]:
                self.assertIsNotNone(alike_word(first * second, second * first))
            kinds.add(both[0] == both[1])
        self.assertEqual(kinds, {True, False})

    def test_products(self):
        for rng, letters, row in orders(6, 100):
            pairs = twist_row(rng, letters, 4)
            self.assertEqual(twisted(letters, row, pairs).images, told_product(letters, row, pairs))
            self.assertEqual(twisted(letters, row, ()), Turner.idle(letters))
            entry, times = rng.choice(row), rng.randint(-3, 3)
            self.assertEqual(twisted(letters, row, ((entry, times),)), twist(letters, row, entry).power(times))

    def test_rows_of_eight_pairs_and_of_nine(self):
        pairs = ((1, 3), (2, -3)) * 4
        found = twisted(2, HANDLE, pairs)
        self.assertEqual(found.images, told_product(2, HANDLE, pairs))
        self.assertEqual(rims_paper(2, HANDLE, found), ("kept", 1, (0,)))
        self.assert_raises_with(InvalidOperation, None, None, twisted, 2, HANDLE, pairs + ((1, 1),))
        long = twisted(5, (-1, -5, -4, 2, 1, 5, 3, 4, -2, -3), ((2, -3), (-4, 3), (2, -3), (4, -3), (-1, 3), (-5, 3), (-4, 3), (1, -3)))
        self.assertGreater(long.length, 100000)
        self.assertEqual(rims_paper(5, (-1, -5, -4, 2, 1, 5, 3, 4, -2, -3), long)[:2], ("kept", 1))

    def test_powers_from_minus_3_to_3(self):
        for times in (-3, 3):
            self.assertEqual(twisted(2, HANDLE, ((1, times),)).images, ((1,), (times // 3,) * 3 + (2,)))
        for times in (-4, 4, 10 ** 60):
            self.assert_raises_with(InvalidOperation, None, None, twisted, 2, HANDLE, ((1, times),))

    def test_wrong_inputs(self):
        letter = (InvalidNumber, "given", STRANGE + [0, 3, -3, 10 ** 60, -10 ** 99, (1,)])
        self.assert_refuses(twist, (2, HANDLE, 1), [LETTERS, ORDER, letter])
        rows = [value for value in STRANGE if value != ()] + [
            0, 1, [], [(1, 1)], ((1, 1), [2, 1]), ((1,),), ((1, 1, 1),), ((0, 1),), ((3, 1),), ((-3, 1),), ((1, 4),), ((True, 1),), ((1, True),),
            ((1, None),), (("1", 1),), ((1, (1,)),), (1, 1), ((1, 1),) * 9, ((10 ** 60, 1),), ((1, -10 ** 60),)]
        self.assert_refuses(twisted, (2, HANDLE, ((1, 1),)), [LETTERS, ORDER, (InvalidOperation, None, rows)])


class Papers(WrongInputs):
    def assert_paper(self, letters, row, turner):
        """The paper, and values near it, are judged by the test's own goals; the kind and the sign are returned."""
        paper = rims_paper(letters, row, turner)
        along, back = (led_goals(letters, row, turner, sign) for sign in (1, -1))
        self.assertIs(is_rims_paper(letters, row, turner, paper), True)
        if paper[0] == "kept":
            self.assertEqual(paper[2], tuple(along if paper[1] == 1 else back))
            self.assertNotIn(None, paper[2])
        else:
            self.assertEqual([paper[0], along[paper[1]], back[paper[2]]], ["moved", None, None])
        size = len(along)
        for first in range(-1, size + 1):
            for second in range(-1, size + 1):
                right = 0 <= first < size and 0 <= second < size and along[first] is None and back[second] is None
                self.assertIs(is_rims_paper(letters, row, turner, ("moved", first, second)), right)
        for sign in (1, -1, 0, 2, True, None, "1"):
            goals = along if sign == 1 else back
            right = type(sign) is int and abs(sign) == 1 and None not in goals
            self.assertIs(is_rims_paper(letters, row, turner, ("kept", sign, tuple(goals))), right)
            for near in [tuple(goals)[::-1], tuple(goals)[1:], tuple(goals) + (0,), list(goals), tuple(map(str, goals)), None]:
                if near != tuple(goals):
                    self.assertIs(is_rims_paper(letters, row, turner, ("kept", sign, near)), False)
        return paper[:2] if paper[0] == "kept" else "moved"

    def test_drawn_turners(self):
        kinds = set()
        for rng, letters, row in orders(7, 150):
            turner = twisted(letters, row, twist_row(rng, letters, 3))
            kinds.add(self.assert_paper(letters, row, turned_by(letters, drawn.word(rng, letters, 4)) * turner))
            kinds.add(self.assert_paper(letters, row, Turner(drawn.images(rng, letters, rng.randint(0, 3), 6))))
            flip = Turner(tuple((-letter,) for letter in range(1, letters + 1)))
            kinds.add(self.assert_paper(letters, row, flip))
            kinds.add(self.assert_paper(letters, tuple(brute.entries(letters)), Turner(tuple((letter,) for letter in range(letters, 0, -1)))))
        self.assertEqual(kinds, {("kept", 1), ("kept", -1), "moved"})

    def test_mirrors_keep_the_rims_with_the_sign_minus_1(self):
        # Two orders, the second one read backwards, have rims that are contraries of one another.
        for rng, letters, row in orders(8, 60):
            names = rng.sample(range(1, letters + 1), letters)
            turner = Turner(tuple((name,) for name in names))
            led = tuple(names[abs(entry) - 1] * (1 if entry > 0 else -1) for entry in row)
            turns = [led[place:] + led[:place] for place in range(len(led))]
            if row[::-1] in turns and letters > 1:
                self.assertEqual(rims_paper(letters, row, turner)[:2], ("kept", -1))
            if row in turns and letters > 1:
                self.assertEqual(rims_paper(letters, row, turner)[:2], ("kept", 1))

    def test_products_and_undoing_ones(self):
        for rng, letters, row in orders(9, 60):
            one, other = (twisted(letters, row, twist_row(rng, letters, 2)) for _ in range(2))
            for turner in (one * other, one.undone(), other.undone() * one):
                self.assertEqual(rims_paper(letters, row, turner)[:2], ("kept", 1))
        for turner in drawn.turners(10, 40, 8, 2):
            self.assertEqual(rims_paper(2, HANDLE, turner), ("kept", commutator_sign(turner), (0,)))

    def test_one_letter_has_both_signs(self):
        for images, along in [(((1,),), (0, 1)), (((-1,),), (1, 0))]:
            turner = Turner(images)
            self.assertIs(is_rims_paper(1, (1, -1), turner, ("kept", 1, along)), True)
            self.assertIs(is_rims_paper(1, (1, -1), turner, ("kept", -1, along[::-1])), True)
            self.assertIs(is_rims_paper(1, (1, -1), turner, ("kept", 1, along[::-1])), False)
            self.assertEqual(rims_paper(1, (1, -1), turner)[0], "kept")

    def test_rates_of_turners_that_keep_the_rims_and_of_undoing_ones(self):
        done = 0
        for rng, letters, row in orders(11, 120):
            if letters > 3:
                continue
            turner = twisted(letters, row, twist_row(rng, letters, 3))
            if max(turner.length, turner.undone().length) <= 40:
                one, other = search_paper(turner), search_paper(turner.undone())
                if one[0] == other[0] == "never":
                    self.assertEqual(compare_rates(counts(one[1]), counts(other[1])), 0)
                    done += 1
        self.assertGreater(done, 10)

    def test_wrong_inputs(self):
        self.assert_refuses(rims_paper, (2, HANDLE, GROW), [LETTERS, ORDER, TURNER])
        self.assert_refuses(is_rims_paper, (2, HANDLE, GROW, None), [LETTERS, ORDER, TURNER, None])
        for call, rest in [(rims_paper, ()), (is_rims_paper, (None,))]:
            self.assert_raises_with(InvalidOperation, None, None, call, 2, HANDLE, Turner.idle(3), *rest)
            self.assert_raises_with(InvalidTurner, None, None, call, 2, HANDLE, None, *rest)
        self.assert_judges_strange(is_rims_paper, (2, HANDLE, GROW), [])
        for value in STRANGE:
            for near in [("kept", value, (0,)), ("kept", -1, value), (value, -1, (0,)), ("moved", value, 0), ("moved", 0, value), ("kept", -1, (value,))]:
                self.assertIs(is_rims_paper(2, HANDLE, GROW, near), repr(near) == repr(("kept", -1, (0,))))
        self.assertIs(is_rims_paper(2, HANDLE, GROW, ("kept", -1, (False,))), False)
        self.assertIs(is_rims_paper(2, DISK, GROW, ("moved", True, 0)), False)
        for near in [("moved", 10 ** 5000, 0), ("moved", 1), ("moved", 1, 0, 0), ["moved", 1, 0], ("kept", 10 ** 5000, (0,))]:
            self.assertIs(is_rims_paper(2, DISK, GROW, near), False)
