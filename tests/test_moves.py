"""Promises [4.4] and those of the functions of noroadback.turns.moves: rows of single moves that give turners."""

import itertools
import unittest

import brute
import drawn
from noroadback.base.lots import do_make_all
from noroadback.errors import InvalidOperation, TooMany
from noroadback.turns import moves as module
from noroadback.turns.moves import is_moves_of, made_by, moves_of
from noroadback.turns.turners import Turner
from wrong import LETTERS, STRANGE, TURNER, WRONG_MOVES, WrongInputs

GROW, THREE, PLAIN = Turner(((1, 2), (1,))), Turner(((2,), (3,), (1, 2))), Turner(((1,), (2, 1)))
WRONG_ROWS = [value for value in STRANGE if value != ()] + [(move,) for move in WRONG_MOVES if type(move) is tuple] + [
    [("turn", 1)], ("turn", 1), (("turn", 1), None), (("turn", 1), ("turn", 3)), (("turn", 1), ["turn", 1]), 1,
    (("turn", 1),) * 50001, (("turn", 1),) * 3 + (("swap", 2, 1),),
]


class Constants(unittest.TestCase):
    def test_constants(self):
        self.assertEqual(module.MAX_MOVES, 50000)


class Giving(WrongInputs):
    def test_moves_give_the_product_of_their_turners(self):
        rng = drawn.dice(1)
        for letters in range(1, 6):
            for _ in range(15):
                moves = drawn.moves(rng, letters, rng.randint(0, 12))
                turner = made_by(letters, moves)
                self.assertEqual((type(turner), turner.images), (Turner, brute.first_products(letters, moves)[-1]))
                product = Turner.idle(letters)
                for move in moves:
                    product = product * Turner.of_move(letters, move)
                self.assertEqual(turner, product)

    def test_single_moves_and_none(self):
        for letters in range(1, 6):
            self.assertEqual(made_by(letters, ()), Turner.idle(letters))
            for move in brute.all_moves(letters):
                self.assertEqual(made_by(letters, (move,)).images, brute.move_images(letters, move))

    def test_pairs_of_moves(self):
        for moves in itertools.product(brute.all_moves(3), repeat=2):
            self.assertEqual(made_by(3, moves).images, brute.first_products(3, moves)[-1])

    def test_50000_moves_and_50001(self):
        self.assertEqual(made_by(1, (("turn", 1),) * 49999), Turner(((-1,),)))
        self.assertEqual(made_by(2, (("behind", 2, 1), ("behind", 2, -1)) * 25000), Turner.idle(2))
        for moves in [(("turn", 1),) * 50001, (("behind", 2, 1), ("behind", 2, -1)) * 25000 + (("turn", 1),)]:
            self.assert_raises_with(InvalidOperation, None, None, made_by, 2, moves)

    def test_lengths_up_to_40000(self):
        for name, image in [("behind", (2,) + (1,) * 39998), ("ahead", (1,) * 39998 + (2,))]:
            self.assertEqual(made_by(2, ((name, 2, 1),) * 39998).images, ((1,), image))
            self.assert_too_long(2, ((name, 2, 1),) * 39999)
        self.assertEqual(made_by(5, (("ahead", 2, -1),) * 39995).length, 40000)
        self.assert_too_long(5, (("ahead", 2, -1),) * 39996)

    def test_a_product_on_the_way_can_be_too_long(self):
        doubled = (("behind", 1, 2), ("behind", 2, 1)) * 10
        back = tuple((name, one, -other) for name, one, other in doubled[::-1])
        self.assertEqual(made_by(2, doubled + back), Turner.idle(2))
        self.assert_too_long(2, doubled + (("behind", 1, 2),) * 3 + (("behind", 1, -2),) * 3 + back)

    def assert_too_long(self, letters, moves):
        with self.assertRaises(TooMany) as caught:
            made_by(letters, moves)
        self.assertEqual(caught.exception.most, 40000)

    def test_wrong_inputs(self):
        self.assert_refuses(made_by, (2, (("turn", 1),)), [LETTERS, (InvalidOperation, None, WRONG_ROWS)])
        # What is no row of moves is refused ahead of what is too long.
        moves = (("behind", 2, 1),) * 45000 + (("turn", 3),)
        self.assert_raises_with(InvalidOperation, None, None, made_by, 2, moves)


class Finding(WrongInputs):
    def assert_gives(self, turner):
        moves = moves_of(turner)
        self.assertIs(type(moves), tuple)
        self.assertTrue(len(moves) <= 50000)
        right = set(brute.all_moves(turner.letters))
        self.assertTrue(all(type(move) is tuple and move in right for move in moves))
        self.assertIs(is_moves_of(turner, moves), True)
        return moves

    def assert_gives_without_detours(self, turner):
        """By the test's own products: the turner is given, and no length on the way is below the one ahead."""
        products = brute.first_products(turner.letters, self.assert_gives(turner))
        self.assertEqual(products[-1], turner.images)
        lengths = [brute.length(images) for images in products]
        self.assertEqual(lengths, sorted(lengths))
        self.assertTrue(max(lengths) <= turner.length)

    def test_all_short_turners_of_two_letters(self):
        for images in itertools.product(brute.words_to(2, 3), repeat=2):
            if do_make_all(2, images):
                self.assert_gives_without_detours(Turner(images))

    def test_drawn_turners(self):
        for turner in list(drawn.turners(60, 60)) + list(drawn.turners(61, 20, most=60)):
            self.assert_gives_without_detours(turner)

    def test_turners_that_want_steps_of_one_length(self):
        for images in [((3, 2), (1, 2, 2), (3, -1)), ((3, 1, 1), (2, 1), (3, -2), (4,)), ((1, 3), (2, 4), (-4, -1, 3), (-3, 4)),
                       ((-2, 1), (-2, 3), (-1, 3, 3), (-1, 2, 4, 3)), ((-4, 1, 4), (4, 2, 4, 3), (-3, 2, 3), (4, 2)),
                       ((2, 1), (2, -4, 2), (-1, -2, 3, -2), (4, -3, 2, 1))]:
            self.assert_gives_without_detours(Turner(images))
            self.assert_gives_without_detours(Turner(images).undone())
            lengths = [brute.length(found) for found in brute.first_products(len(images), moves_of(Turner(images)))]
            self.assertTrue(any(one == other > len(images) for one, other in zip(lengths, lengths[1:])))

    def test_signed_letters(self):
        for letters in (1, 2, 3):
            for order in itertools.permutations(range(1, letters + 1)):
                for signs in itertools.product((1, -1), repeat=letters):
                    self.assert_gives_without_detours(Turner(tuple((s * i,) for s, i in zip(signs, order))))

    def test_the_idle_turner(self):
        for letters in range(1, 6):
            self.assert_gives_without_detours(Turner.idle(letters))
        self.assertEqual([moves_of(Turner.idle(1)), moves_of(Turner(((-1,),)))], [(), (("turn", 1),)])

    def test_long_turners(self):
        for turner in [GROW.power(20), GROW.power(-20), THREE.power(20), THREE.power(-20)]:
            self.assert_gives(turner)
        rng = drawn.dice(62)
        for _ in range(5):
            self.assert_gives(Turner(drawn.images(rng, 5, 60, 60)).power(2))

    def test_turners_that_want_many_moves(self):
        for moves in [(("behind", 2, 1),) * 39998, (("ahead", 2, -1),) * 39998]:
            self.assertEqual(len(self.assert_gives(made_by(2, moves))), 39998)
        self.assertEqual(len(self.assert_gives(made_by(3, (("behind", 3, 1), ("behind", 3, 2)) * 19998))), 39996)

    def test_wrong_inputs(self):
        self.assert_refuses(moves_of, (GROW,), [TURNER])
        self.assert_refuses(is_moves_of, (GROW, None), [TURNER, None])


class IsMovesOf(WrongInputs):
    def test_all_short_rows(self):
        rows = [row for many in range(3) for row in itertools.product(brute.all_moves(2), repeat=many)]
        turners = [GROW, PLAIN, Turner.idle(2), Turner(((2,), (1,))), Turner(((1, 2, 2), (2,)))]
        for row in rows:
            given = brute.first_products(2, row)[-1]
            for turner in turners:
                self.assertIs(is_moves_of(turner, row), given == turner.images)

    def test_rows_of_another_number_of_letters(self):
        self.assertIs(is_moves_of(Turner.idle(2), (("turn", 3), ("turn", 3))), False)
        self.assertIs(is_moves_of(Turner.idle(3), (("turn", 3), ("turn", 3))), True)
        self.assertIs(is_moves_of(Turner.idle(3), (("behind", 1, 4), ("behind", 1, -4))), False)

    def test_detours(self):
        high = (("behind", 2, 1),) * 20000
        back = (("behind", 2, -1),) * 20000
        self.assertIs(is_moves_of(Turner.idle(2), high + back), True)
        up, down = (("behind", 1, 2), ("behind", 2, 1)), (("behind", 2, -1), ("behind", 1, -2))
        self.assertIs(is_moves_of(Turner.idle(2), up * 10 + down * 10), True)
        self.assertIs(is_moves_of(Turner.idle(2), up * 11 + down * 11), False)
        self.assertIs(is_moves_of(GROW, (("swap", 1, 2), ("ahead", 1, 2)) + up * 9 + down * 9), True)

    def test_50000_moves_and_50001(self):
        self.assertIs(is_moves_of(Turner.idle(2), (("turn", 1),) * 50000), True)
        self.assertIs(is_moves_of(Turner.idle(2), (("turn", 1),) * 50002), False)
        self.assertIs(is_moves_of(Turner(((-1,), (2,))), (("turn", 1),) * 49999), True)
        self.assertIs(is_moves_of(Turner(((-1,), (2,))), (("turn", 1),) * 50001), False)

    def test_wrong_moves(self):
        for move in WRONG_MOVES:
            self.assertIs(is_moves_of(Turner.idle(2), (move,)), False)
            self.assertIs(is_moves_of(Turner.idle(2), (move, move)), False)
            self.assertIs(is_moves_of(PLAIN, (("behind", 2, 1), move)), False)

    def test_true_is_not_one(self):
        for move in [("turn", True), ("swap", True, 2), ("behind", True, 2), ("behind", 2, True)]:
            self.assertIs(is_moves_of(Turner.idle(2), (move, move)), False)
            self.assertIs(is_moves_of(PLAIN, (move,)), False)

    def test_other_values(self):
        self.assert_judges_strange(is_moves_of, (GROW,), [])
        self.assert_judges_strange(is_moves_of, (Turner.idle(2),), [])
        for value in [[], [("behind", 2, 1)], (["behind", 2, 1],), ("behind", 2, 1), (("behind", 2, 10 ** 5000),)]:
            self.assertIs(is_moves_of(PLAIN, value), False)
        self.assertIs(is_moves_of(Turner.idle(2), ()), True)
        self.assertIs(is_moves_of(Turner.idle(2), []), False)
