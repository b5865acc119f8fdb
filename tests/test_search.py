"""Promises [0.18], [0.19], [0.25] and [13.1] to [13.5]: kept parts, and the search for a stand that never turns back."""

import math
import unittest

import brute
import drawn
from noroadback.errors import InvalidOperation, InvalidTurner, TooMany
from noroadback.rates.tables import compare_rates, counts, hangs_together, rate_bounds
from noroadback.search import search as module
from noroadback.search.search import grown_set, is_search_paper, kept_parts, search_paper
from noroadback.turns.alike import alike_word, turned_by
from noroadback.turns.turners import Turner, table_of
from noroadback.webs.changes import halved
from noroadback.webs.stands import Stand, rose_stand, stand_power, turner_of
from test_gates import meet, turns
from wrong import STAND, STRANGE, TIES, TURNER, WrongInputs

GROW, THREE, PLAIN = Turner(((1, 2), (1,))), Turner(((2,), (3,), (1, 2))), Turner(((1,), (2, 1)))
SWAP, SIX = Turner(((2,), (1,))), Turner(((1, 2), (-1,)))
ROSE = rose_stand(GROW)
TURNED = Stand(((0, 0), (0, 0)), ((1, 2), (2,)), ((1,), (-2, 1)))
THIRDS = Stand(((0, 1), (0, 1), (0, 1)), ((), (1,), (-2,)), ((-2,), (-3,), (-1,)))


def grown(stand, chosen):
    """The least set that has some ties and that is led into itself, taken in step by step."""
    found = set(chosen)
    for _ in range(stand.size):
        found |= {abs(entry) for tie in found for entry in stand.images[tie - 1]}
    return tuple(sorted(found))


def has_round(stand, chosen):
    """Whether some ties have a tight round: as often as can be, ties at a point with no other one are left out."""
    pairs, left = stand.web.ties, set(chosen)
    for _ in chosen:
        for tie in list(left):
            for point in pairs[tie - 1]:
                if pairs[tie - 1][0] != pairs[tie - 1][1] and sum(point in pairs[other - 1] for other in left) == 1:
                    left.discard(tie)
    return bool(left)


def is_kept(stand, chosen):
    """Whether some ties are a kept part."""
    return len(chosen) < stand.size and grown(stand, chosen) == tuple(chosen) and has_round(stand, chosen)


def is_never_back(stand):
    """Whether no image has a turn that firsts close."""
    return all(meet(stand, one, other) is None for image in stand.images for one, other in turns(image))


def subsets(stand):
    """All sets of ties."""
    for number in range(2 ** stand.size):
        yield tuple(tie for tie in range(1, stand.size + 1) if number >> (tie - 1) & 1)


def drawn_turners(seed, many, least=2, most=4, length=40):
    """Turners of some numbers of letters, with at most so many letters in all."""
    rng = drawn.dice(seed)
    for number in range(many):
        letters = least + number % (most - least + 1)
        images = brute.idle(letters)
        for move in drawn.moves(rng, letters, rng.randint(0, 40)):
            found = brute.behind(images, brute.move_images(letters, move))
            if rng.random() < 0.5:
                found = brute.behind(brute.move_images(letters, move), images)
            if brute.length(found) <= length:
                images = found
        yield Turner(images)


class Constants(unittest.TestCase):
    def test_constants(self):
        self.assertEqual([module.MAX_LETTERS, module.MAX_IMAGES], [4, 40])


class Sets(WrongInputs):
    def drawn_stands(self, seed, many):
        """Stands made from drawn moves and roads, and roses with kept letters."""
        rng = drawn.dice(seed)
        for number in range(many):
            if number % 2:
                yield rng, Stand(*drawn.parts(rng, 1 + number % 5, 3)[:3])
            else:
                images = drawn.images(rng, 2, 4, 4) + ((3,) + drawn.word(rng, 2, 2),)
                yield rng, rose_stand(Turner(images))

    def test_grown_sets(self):
        for rng, stand in self.drawn_stands(1, 80):
            chosen = rng.choice(list(subsets(stand)))
            self.assertEqual(grown_set(stand, chosen), grown(stand, chosen))
            self.assertEqual(grown_set(stand, ()), ())
            self.assertEqual(grown_set(stand, grown(stand, chosen)), grown(stand, chosen))

    def test_kept_parts(self):
        found = 0
        for rng, stand in self.drawn_stands(2, 80):
            single = {grown(stand, (tie,)) for tie in range(1, stand.size + 1)}
            told = tuple(sorted(chosen for chosen in single if is_kept(stand, chosen)))
            self.assertEqual(kept_parts(stand), told)
            found += len(told) > 0
            sets = [chosen for chosen in subsets(stand) if grown(stand, chosen) == chosen and 0 < len(chosen) < stand.size]
            self.assertEqual(sets == [], hangs_together(counts(stand)))
            if told == () and all(has_round(stand, chosen) for chosen in single if len(chosen) < stand.size):
                self.assertFalse([chosen for chosen in subsets(stand) if is_kept(stand, chosen)])
        self.assertGreater(found, 20)

    def test_forests_are_no_kept_parts(self):
        stand = Stand(((0, 0), (1, 1), (0, 1)), ((1,), (2,), ()), ((2,), (1,), (-3,)))
        self.assertEqual([kept_parts(stand), grown_set(stand, (3,)), grown_set(stand, (1,))], [((1, 2),), (3,), (1, 2)])

    def test_wrong_inputs(self):
        self.assert_refuses(grown_set, (THIRDS, (1,)), [STAND, TIES])
        self.assert_refuses(kept_parts, (THIRDS,), [STAND])
        self.assert_raises_with(InvalidOperation, None, None, grown_set, ROSE, (3,))


class Papers(WrongInputs):
    def assert_paper(self, turner, paper):
        """The paper shows what it tells, by the test's own sums, powers and firsts."""
        stand = paper[1]
        self.assertIsNotNone(alike_word(turner_of(stand), turner))
        self.assertIs(is_search_paper(turner, paper), True)
        self.assertEqual(stand.web.loose_points(), ())
        if paper[0] == "never":
            self.assertEqual(len(paper), 2)
            self.assertTrue(is_never_back(stand))
            self.assertEqual({grown(stand, (tie,)) for tie in range(1, stand.size + 1)}, {tuple(range(1, stand.size + 1))})
        else:
            self.assertEqual((paper[0], len(paper)), ("kept", 3))
            self.assertTrue(is_kept(stand, paper[2]))

    def test_drawn_turners(self):
        kinds = {}
        for turner in drawn_turners(3, 90):
            paper = search_paper(turner)
            self.assert_paper(turner, paper)
            kinds[turner.letters, paper[0]] = kinds.get((turner.letters, paper[0]), 0) + 1
        self.assertTrue(all(kinds[letters, kind] > 1 for letters in (2, 3, 4) for kind in ("never", "kept")))

    def test_small_turners_of_two_letters(self):
        seen = {brute.idle(2)}
        waiting = [brute.idle(2)]
        for images in waiting:
            for move in brute.all_moves(2):
                found = brute.behind(images, brute.move_images(2, move))
                if brute.length(found) <= 5 and found not in seen:
                    seen.add(found)
                    waiting.append(found)
        for images in waiting:
            turner = Turner(images)
            paper = search_paper(turner)
            self.assert_paper(turner, paper)
            (a, b), (c, d) = table_of(turner)
            under = (a + d) ** 2 - 4 * (a * d - b * c)
            if under > 0 and math.isqrt(under) ** 2 != under:
                # Two real eigenvalues that are not whole: the rate is the size of the greater one.
                self.assertEqual(paper[0], "never")
                low, high = rate_bounds(counts(paper[1]), 10)
                size = (abs(a + d) + math.sqrt(under)) / 2
                self.assertTrue(low[0] / low[1] - 1e-9 <= size <= high[0] / high[1] + 1e-9)

    def test_the_rate_is_that_of_all_stands_of_the_first_sort(self):
        rng = drawn.dice(4)
        for turner in drawn_turners(5, 60, 2, 3, 16):
            paper = search_paper(turner)
            by = Turner(drawn.images(rng, turner.letters, 2, 3))
            other = by * turner * by.undone()
            if other.length <= 40 and paper[0] == "never":
                second = search_paper(other)
                self.assert_paper(other, second)
                rose = rose_stand(turner)
                self.assertLessEqual(compare_rates(counts(paper[1]), counts(rose)), 0)
                if second[0] == "never":
                    self.assertEqual(compare_rates(counts(paper[1]), counts(second[1])), 0)

    def test_no_stand_of_the_turner_has_a_lesser_rate(self):
        rng = drawn.dice(8)
        done = 0
        for number in range(120):
            pairs, words, images, goals = drawn.parts(rng, 2 + number % 2, 3)
            if brute.length(goals) <= 40:
                paper = search_paper(Turner(goals))
                if paper[0] == "never":
                    self.assertLessEqual(compare_rates(counts(paper[1]), counts(Stand(pairs, words, images))), 0)
                    done += 1
        self.assertGreater(done, 30)

    def test_words_in_which_all_letters_are_led(self):
        rng = drawn.dice(6)
        for _ in range(20):
            images = brute.idle(3)
            for move in drawn.moves(rng, 3, 12):
                if move[0] == "swap" or (len(move) == 3 and move[2] > 0):
                    found = brute.behind(images, brute.move_images(3, move))
                    images = found if brute.length(found) <= 40 else images
            turner = Turner(images)
            rose = rose_stand(turner)
            self.assertTrue(is_never_back(rose))
            self.assertIs(is_search_paper(turner, ("never", rose)), hangs_together(counts(rose)))

    def test_turners_that_come_round(self):
        rng = drawn.dice(7)
        for number in range(30):
            letters = 1 + number % 4
            names = rng.sample(range(1, letters + 1), letters)
            turner = Turner(tuple((rng.choice([1, -1]) * name,) for name in names))
            by = Turner(drawn.images(rng, letters, 5, 6))
            found = by * turner * by.undone()
            if found.length <= 40:
                paper = search_paper(found)
                self.assert_paper(found, paper)
                if paper[0] == "never":
                    self.assertEqual({len(image) for image in paper[1].images}, {1})

    def test_one_letter(self):
        for sign in (1, -1):
            turner = Turner(((sign,),))
            paper = search_paper(turner)
            self.assert_paper(turner, paper)
            self.assertEqual((paper[0], paper[1].images), ("never", ((sign,),)))

    def test_told_rates(self):
        for turner, rate in [(SIX, (1, 1)), (SWAP, (1, 1)), (Turner(((-2, -1), (1,))), (1, 1))]:
            paper = search_paper(turner)
            self.assert_paper(turner, paper)
            if paper[0] == "never":
                self.assertEqual(rate_bounds(counts(paper[1]), 10), (rate, rate))
        # The rates of this turner and of the one that undoes it are not equal.
        low, high = rate_bounds(counts(search_paper(THREE)[1]), 6)
        self.assertTrue(1.3247 < low[0] / low[1] <= high[0] / high[1] < 1.3248)
        low, high = rate_bounds(counts(search_paper(THREE.undone())[1]), 6)
        self.assertTrue(1.4655 < low[0] / low[1] <= high[0] / high[1] < 1.4656)

    def test_kept_parts_of_turners(self):
        for turner in [PLAIN, Turner(((1,), (2, 1), (3, 2))), Turner(((1, 2), (1,), (3, 1))), Turner(((2, 1, -2), (2,))),
                       Turner(((1,), (2,), (1, 2, -1, -2, 3))), Turner(((1, 2), (1,), (3, 4), (3,))), Turner.idle(4), Turner.idle(2)]:
            paper = search_paper(turner)
            self.assert_paper(turner, paper)
            self.assertEqual(paper[0], "kept")

    def test_40_letters_together_and_41(self):
        for letters in (2, 4):
            forty = Turner(brute.idle(letters)[:-1] + ((letters,) + (1,) * (40 - letters),))
            more = Turner(brute.idle(letters)[:-1] + ((letters,) + (1,) * (41 - letters),))
            self.assertEqual([forty.length, more.length], [40, 41])
            self.assert_paper(forty, search_paper(forty))
            self.assert_raises_with(TooMany, "most", 40, search_paper, more)
            self.assertIs(is_search_paper(more, ("kept", rose_stand(more), (1,))), True)

    def test_four_letters_and_five(self):
        self.assert_paper(Turner.idle(4), search_paper(Turner.idle(4)))
        five = Turner(((2,), (3,), (4,), (5,), (1, 2)))
        self.assert_raises_with(TooMany, "most", 4, search_paper, five)
        self.assert_raises_with(TooMany, "most", 4, search_paper, Turner(((1,), (2,), (3,), (4,), (5,) + (1,) * 50)))
        self.assertIs(is_search_paper(five, ("never", rose_stand(five))), True)

    def test_long_searches(self):
        for images in [((-1, -1, 2, -1, 2), (-1, -1, 2)), ((2, 3, -2, -3, 4, 2, 3, 3, 4, -1, -4, -2), (2, 2, 4, 1, -4, -3, 2),
                       (2, 2, 4, 1, -4, -3, -3, -2, -4, 3, -2), (3, 4, -1, -4, -2, -2)),
                       ((4, 4, 2, 4, -2, -4, 3), (-3, -4, -4, -2, -4, -4, -3, 4, 2, -4, -2, -4, -4), (-4, -4, 2, -1),
                        (-4, -4, 2, -1, -4, -4, 2, -1, -4, -2, -4, -4))]:
            self.assert_paper(Turner(images), search_paper(Turner(images)))

    def test_wrong_inputs(self):
        self.assert_refuses(search_paper, (GROW,), [TURNER])
        self.assert_refuses(is_search_paper, (GROW, None), [TURNER, None])
        self.assert_raises_with(InvalidTurner, None, None, is_search_paper, ROSE, ("never", ROSE))


class Judging(WrongInputs):
    def test_stands_of_other_turners(self):
        self.assertIs(is_search_paper(GROW, ("never", ROSE)), True)
        self.assertIs(is_search_paper(turned_by(2, (2, 1, 1)) * GROW, ("never", ROSE)), True)
        for turner in (PLAIN, THREE, GROW * GROW, GROW.undone(), Turner.idle(1)):
            self.assertIs(is_search_paper(turner, ("never", ROSE)), False)
        self.assertIs(is_search_paper(GROW * GROW, ("never", stand_power(ROSE, 2))), True)

    def test_ends(self):
        stand = Stand(((0, 0), (0, 0), (0, 1)), ((1,), (2,), ()), ((1,), (2, 1), (3,)))
        self.assertIs(is_search_paper(PLAIN, ("kept", stand, (1,))), False)
        self.assertIs(is_search_paper(PLAIN, ("kept", rose_stand(PLAIN), (1,))), True)

    def test_kept_parts_need_not_be_the_least_ones(self):
        turner = Turner(((1,), (2, 1), (3, 2), (4, 3)))
        rose = rose_stand(turner)
        for chosen in subsets(rose):
            self.assertIs(is_search_paper(turner, ("kept", rose, chosen)), chosen in [(1,), (1, 2), (1, 2, 3)])
        bar = Stand(((0, 0), (1, 1), (0, 1)), ((1,), (2,), ()), ((1,), (2,), (3,)))
        for chosen in subsets(bar):
            told = chosen in [(1,), (2,), (1, 2), (1, 3), (2, 3)]
            self.assertIs(is_search_paper(Turner.idle(2), ("kept", bar, chosen)), told)

    def test_stands_that_turn_back_or_do_not_hang_together(self):
        self.assertIs(is_search_paper(PLAIN, ("never", rose_stand(PLAIN))), False)
        self.assertIs(is_search_paper(SIX, ("never", rose_stand(SIX))), False)
        self.assertIs(is_search_paper(GROW, ("never", halved(ROSE, 1, 1))), is_never_back(halved(ROSE, 1, 1)))

    def test_images_of_any_length(self):
        power = GROW.power(20)
        self.assertIs(is_search_paper(power, ("never", rose_stand(power))), True)

    def test_values(self):
        for value in [("never",), ("never", ROSE, ()), ["never", ROSE], ("Never", ROSE), (ROSE, "never"), ("kept", ROSE), ("never", None),
                      ("kept", ROSE, ()), ("kept", ROSE, (1,)), ("kept", ROSE, (1, 2)), ("kept", ROSE, None), ("never", (ROSE,))]:
            self.assertIs(is_search_paper(GROW, value), False)
        rose = rose_stand(PLAIN)
        for chosen in [(True,), [1], (1, 1), (3,), (0,), (-1,), ("1",), 1, None, ((1,),), (10 ** 5000,)]:
            self.assertIs(is_search_paper(PLAIN, ("kept", rose, chosen)), False)
        self.assertIs(is_search_paper(PLAIN, ("kept", rose, (1,), 1)), False)
        for value in STRANGE:
            self.assertIs(is_search_paper(PLAIN, ("kept", value, (1,))), False)
            self.assertIs(is_search_paper(PLAIN, ("never", value)), False)
        self.assert_judges_strange(is_search_paper, (GROW,), [])
