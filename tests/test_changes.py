"""Promises [10.1] to [10.7]: stands halved, folded, shrunk, pulled and joined."""

import unittest

import brute
import drawn
from noroadback.errors import InvalidNumber, InvalidOperation, InvalidStand, Refused, TooMany
from noroadback.rates.tables import compare_rates, counts
from noroadback.turns.turners import Turner
from noroadback.webs.changes import folded, halved, joined, pulled, shrunk
from noroadback.webs.stands import Stand, is_stand_of, rose_stand, turner_of
from noroadback.webs.webs import is_forest
from wrong import STAND, TIES, WrongInputs, directed_but, integers_but

GROW = Turner(((1, 2), (1,)))
ROSE = rose_stand(GROW)
HALF = Stand(((0, 1), (0, 0), (1, 0)), ((1,), (2,), ()), ((1, 3), (1, 3), (2,)))
TIE, POINT = (InvalidNumber, "given", integers_but(1, 3)), (InvalidNumber, "given", integers_but(0, 1))


def drawn_stands(seed, many, most=4):
    """Stands made from drawn moves and roads."""
    rng = drawn.dice(seed)
    for number in range(many):
        pairs, words, images, _ = drawn.parts(rng, 1 + number % 5, most)
        yield rng, Stand(pairs, words, images)


def made(stand, gone=(), instead=None, merged=(), shifts=None, parts=None):
    """Parts of a stand behind shifts of points and other entries, without some ties, some points being one."""
    pairs, words, images = parts or (stand.web.ties, stand.words, stand.images)
    instead, shifts = instead or {}, shifts or {}
    words = [brute.times(brute.back(shifts.get(begin, ())), word, shifts.get(end, ())) for (begin, end), word in zip(pairs, words)]
    images = [brute.struck(tuple(instead.get(entry, entry) for entry in image)) for image in images]
    left = [tie for tie in range(1, len(pairs) + 1) if tie not in gone]

    def least(point):
        return min([point] + [min(group) for group in merged if point in group])
    points = sorted({least(point) for tie in left for point in pairs[tie - 1]})
    numbers = {sign * tie: sign * (left.index(tie) + 1) for tie in left for sign in (1, -1)}
    return (
        tuple(tuple(points.index(least(point)) for point in pairs[tie - 1]) for tie in left),
        tuple(words[tie - 1] for tie in left),
        tuple(tuple(numbers[entry] for entry in images[tie - 1] if abs(entry) not in gone) for tie in left),
    )


def parts_of(stand):
    """The ties, words and images of a stand."""
    return stand.web.ties, stand.words, stand.images


def directed(row, tie):
    """The image or word of a directed tie."""
    return row[tie - 1] if tie > 0 else brute.back(row[-tie - 1])


def cut(stand, tie, place):
    """The parts of a halved stand, by the test's own steps."""
    pairs, words, images = map(list, parts_of(stand))
    second, point = len(pairs) + 1, len(brute.points(pairs))
    pairs.append((point, pairs[tie - 1][1]))
    pairs[tie - 1] = (pairs[tie - 1][0], point)
    words.append(())
    images.append(images[tie - 1][place:])
    images[tie - 1] = images[tie - 1][:place]
    images = [sum(((tie, second) if entry == tie else (-second, -tie) if entry == -tie else (entry,) for entry in image), ())
              for image in images]
    return tuple(pairs), tuple(words), tuple(images)


def foldable(rng, stand):
    """The stand with two directed ties halved so that their beginnings can be folded, and these; None if there are none."""
    pairs = stand.web.ties
    found = [(one, other) for one in brute.entries(len(pairs)) for other in brute.entries(len(pairs))
             if abs(one) != abs(other) and brute.begin(pairs, one) == brute.begin(pairs, other)
             and directed(stand.images, one)[0] == directed(stand.images, other)[0]]
    if not found:
        return None
    one, other = rng.choice(found)
    first, second = directed(stand.images, one), directed(stand.images, other)
    many = 1
    while rng.random() < 0.7 and first[:many + 1] == second[:many + 1] and many < min(len(first), len(second)):
        many += 1
    for place in (0, 1):
        tie = (one, other)[place]
        goal = directed(stand.images, tie)
        length = many if place == 0 else len(directed(stand.images, one))
        if len(goal) > length:
            size = stand.size
            stand = halved(stand, abs(tie), length if tie > 0 else len(goal) - length)
            if tie < 0:
                one, other = (-size - 1, other) if place == 0 else (one, -size - 1)
    return stand, one, other


class Halved(WrongInputs):
    def test_drawn_stands(self):
        for rng, stand in drawn_stands(1, 100):
            tie = rng.randint(1, stand.size)
            for place in range(1, len(stand.images[tie - 1])):
                found = halved(stand, tie, place)
                self.assertEqual(parts_of(found), cut(stand, tie, place))
                self.assertIs(is_stand_of(turner_of(stand), found), True)
                self.assertEqual(Stand(*parts_of(found)), found)

    def test_edges(self):
        back = Stand(((0, 0), (0, 1)), ((1,), ()), ((-1,), (2,)))
        self.assert_raises_with(InvalidNumber, "given", 1, halved, back, 1, 1)
        stand = Stand(((0, 0), (0, 0)), ((1,), (2,)), ((-2, -1), (1,)))
        self.assertEqual(parts_of(halved(stand, 1, 1)), (((0, 1), (0, 0), (1, 0)), ((1,), (2,), ()), ((-2,), (1, 3), (-3, -1))))

    def test_24_ties(self):
        tall = rose_stand(Turner(((1,), (2,) + (1,) * 30)))
        while tall.size < 24:
            tie = max(range(1, tall.size + 1), key=lambda number: len(tall.images[number - 1]))
            tall = halved(tall, tie, 1)
        self.assertEqual([tall.size, is_stand_of(Turner(((1,), (2,) + (1,) * 30)), tall)], [24, True])
        ready = [tie for tie in range(1, 25) if len(tall.images[tie - 1]) > 1][0]
        self.assert_raises_with(TooMany, "most", 24, halved, tall, ready, 1)
        self.assert_raises_with(InvalidNumber, "given", 99, halved, tall, ready, 99)

    def test_wrong_inputs(self):
        self.assert_refuses(halved, (HALF, 1, 1), [STAND, TIE, (InvalidNumber, "given", integers_but(1, 1))])
        self.assert_raises_with(InvalidNumber, "given", 0, halved, ROSE, 1, 0)
        self.assert_raises_with(InvalidNumber, "given", 2, halved, ROSE, 1, 2)


class Folded(WrongInputs):
    def told(self, stand, one, other):
        """The parts of a folded stand, by the test's own steps."""
        pairs = stand.web.ties
        first, second = (brute.end(pairs, tie) for tie in (one, other))
        read, wanted = directed(stand.words, one), directed(stand.words, other)
        if second != brute.begin(pairs, other):
            shifts = {second: brute.times(brute.back(wanted), read)}
        else:
            shifts = {first: brute.times(brute.back(read), wanted)}
        kept, gone = sorted((one, other), key=abs)
        return made(stand, (abs(gone),), {gone: kept, -gone: -kept}, [(first, second)], shifts)

    def test_drawn_stands(self):
        done = empty = 0
        for rng, stand in drawn_stands(2, 400):
            ready = foldable(rng, stand)
            if ready is None:
                continue
            ready, one, other = ready
            self.assertEqual(directed(ready.images, one), directed(ready.images, other))
            parts = self.told(ready, one, other)
            left = [tie for tie in range(1, ready.size + 1) if tie != max(abs(one), abs(other))]
            if () in parts[2]:
                told = ("empty", left[parts[2].index(())])
                self.assert_raises_with(Refused, "reason", told, folded, ready, one, other)
                empty += 1
                continue
            found = folded(ready, one, other)
            self.assertEqual(parts_of(found), parts)
            self.assertIs(is_stand_of(turner_of(stand), found), True)
            if max(map(len, found.words)) <= 200:
                self.assertEqual(Stand(*parts), found)
            done += 1
        self.assertTrue(done > 100 and empty > 0)

    def test_the_image_of_the_first_tie_can_become_empty(self):
        stand = Stand(((0, 1), (0, 2), (1, 2)), ((), (), (1,)), ((-1, 2), (-1, 2), (-2, 1, 3)))
        self.assert_raises_with(Refused, "reason", ("empty", 1), folded, stand, 1, 2)
        self.assert_raises_with(Refused, "reason", ("empty", 1), folded, stand, 2, 1)

    def test_both_sequences_and_ties_to_the_point_itself(self):
        first, second = folded(HALF, 1, 2), folded(HALF, 2, 1)
        self.assertEqual(first.images, second.images)
        self.assertEqual([first.words, second.words], [((2,), (-2, 1)), ((2,), (-2, 1))])
        self.assertIs(is_stand_of(GROW, first), True)
        # The point at which the second one ends is shifted: here it is the one at which the other one does not.
        stand = halved(halved(rose_stand(Turner(((1, 2), (1, 2, 2)))), 1, 1), 2, 2)
        one, other = folded(stand, 1, 2), folded(stand, 2, 1)
        self.assertEqual([one.words, other.words], [((1,), (), (-1, 2)), ((2,), (-2, 1), ())])
        self.assertEqual(one.images, other.images)

    def test_ties_that_cannot_be_folded(self):
        for pair in [(1, 1), (1, -1), (1, 3), (2, -2), (-1, 3), (3, -2), (-3, -2), (1, -2)]:
            self.assert_raises_with(InvalidOperation, None, None, folded, HALF, *pair)
        self.assert_raises_with(InvalidOperation, None, None, folded, ROSE, 1, 2)

    def test_wrong_inputs(self):
        wrong = (InvalidNumber, "given", directed_but(3))
        self.assert_refuses(folded, (HALF, 1, 2), [STAND, wrong, wrong])


class Shrunk(WrongInputs):
    def forests(self, stand):
        """All forests that are led into themselves."""
        for number in range(2 ** stand.size):
            chosen = tuple(tie for tie in range(1, stand.size + 1) if number >> (tie - 1) & 1)
            kept = all(abs(entry) in chosen for tie in chosen for entry in stand.images[tie - 1])
            points = {point for tie in chosen for point in stand.web.ties[tie - 1]}
            pieces = {min(other for other in points if brute.joins(stand.web.ties, chosen, point, other)) for point in points}
            yield chosen, kept and len(points) - len(chosen) == len(pieces)

    def told(self, stand, chosen):
        """The parts of a shrunk stand, by the test's own steps."""
        pairs = stand.web.ties
        shifts, merged = {}, []
        for point in sorted({point for tie in chosen for point in pairs[tie - 1]}):
            group = [other for other in brute.points(pairs) if brute.joins(pairs, chosen, point, other)]
            if min(group) == point:
                merged.append(group)
                shifts[point] = ()
                for _ in group:
                    for tie in chosen:
                        for entry in (tie, -tie):
                            begin, end = brute.begin(pairs, entry), brute.end(pairs, entry)
                            if begin in shifts:
                                shifts.setdefault(end, brute.times(brute.back(directed(stand.words, entry)), shifts[begin]))
        return made(stand, chosen, {}, merged, shifts)

    def stands(self, seed, many):
        """Stands with forests that are led into themselves: their turner leaves a tree of the web as it is."""
        rng = drawn.dice(seed)
        for number in range(many):
            letters = 1 + number % 4
            pairs = drawn.ties(rng, letters, 4)
            rounds, base = brute.base_rounds(pairs)
            goals = brute.told, drawn.images(rng, letters, 4, 4)
            images = []
            for tie, word in enumerate(base, start=1):
                there = brute.tree_road(pairs, 0, pairs[tie - 1][0]), brute.tree_road(pairs, pairs[tie - 1][1], 0)
                road = (tie,) if not word else brute.shrunk(
                    brute.back(there[0]) + brute.told(rounds, goals[1][word[0] - 1]) + brute.back(there[1]))
                images.append(road)
            shifts = [()] + [drawn.word(rng, letters, 2) for _ in brute.points(pairs)[1:]]
            words = tuple(brute.times(brute.back(shifts[begin]), word, shifts[end]) for (begin, end), word in zip(pairs, base))
            yield rng, Stand(pairs, words, tuple(images))

    def test_drawn_stands(self):
        done = 0
        for rng, stand in self.stands(3, 60):
            for chosen, is_told in self.forests(stand):
                if not is_told:
                    self.assert_raises_with(InvalidOperation, None, None, shrunk, stand, chosen)
                    continue
                parts = self.told(stand, chosen)
                self.assertNotIn((), parts[2])
                found = shrunk(stand, chosen)
                self.assertEqual(parts_of(found), parts)
                self.assertEqual(Stand(*parts), found)
                self.assertIs(is_stand_of(turner_of(stand), found), True)
                done += len(chosen) > 0
        self.assertGreater(done, 60)

    def test_no_ties_change_nothing(self):
        for rng, stand in drawn_stands(4, 20):
            self.assertEqual(shrunk(stand, ()), stand)

    def test_an_image_can_become_empty(self):
        stand = Stand(((0, 0), (0, 1), (1, 2), (2, 3)), ((1,), (), (), ()), ((1,), (2,), (-2,), (2,)))
        self.assert_raises_with(Refused, "reason", ("empty", 3), shrunk, stand, (2,))
        self.assertEqual(shrunk(stand, (2, 3, 4)), rose_stand(Turner.idle(1)))
        self.assert_raises_with(Refused, "reason", ("empty", 4), shrunk, stand, (2, 3))

    def test_wrong_inputs(self):
        self.assert_refuses(shrunk, (HALF, ()), [STAND, TIES])
        for chosen in [(1,), (2,), (3,), (1, 3), (1, 2, 3)]:
            self.assert_raises_with(InvalidOperation, None, None, shrunk, HALF, chosen)


class Pulled(WrongInputs):
    def test_drawn_stands(self):
        done = 0
        for rng, stand in drawn_stands(5, 200, 6):
            pairs = stand.web.ties
            for point in brute.points(pairs):
                there = brute.beginnings(pairs, point)
                if len(there) != 1:
                    self.assert_raises_with(InvalidOperation, None, None, pulled, stand, point)
                    continue
                parts = made(stand, (abs(there[0]),))
                left = [tie for tie in range(1, stand.size + 1) if tie != abs(there[0])]
                if () in parts[2]:
                    self.assert_raises_with(Refused, "reason", ("empty", left[parts[2].index(())]), pulled, stand, point)
                else:
                    found = pulled(stand, point)
                    self.assertEqual(parts_of(found), parts)
                    self.assertEqual(Stand(*parts), found)
                    self.assertIs(is_stand_of(turner_of(stand), found), True)
                    done += 1
        self.assertGreater(done, 40)

    def test_an_image_can_become_empty(self):
        stand = Stand(((0, 0), (0, 1), (0, 2)), ((1,), (), ()), ((1,), (3,), (2,)))
        self.assert_raises_with(Refused, "reason", ("empty", 2), pulled, stand, 2)
        self.assert_raises_with(Refused, "reason", ("empty", 3), pulled, stand, 1)

    def test_wrong_inputs(self):
        stand = Stand(((0, 0), (0, 1)), ((1,), ()), ((1,), (1, 2)))
        self.assert_refuses(pulled, (stand, 1), [STAND, POINT])
        self.assert_raises_with(InvalidOperation, None, None, pulled, stand, 0)


class Joined(WrongInputs):
    def told(self, stand, point, tie):
        """The parts of a joined stand, and the other tie, by the test's own steps."""
        pairs, words, images = map(list, parts_of(stand))
        away, = [entry for entry in (tie, -tie) if brute.begin(pairs, entry) == point]
        other, = [entry for entry in brute.beginnings(pairs, point) if abs(entry) != tie]
        far, road = brute.end(pairs, away), (-away, other)
        if other < 0:
            road = brute.back(road)
        words[abs(other) - 1] = brute.reading(stand.words, road)
        images[abs(other) - 1] = brute.led(stand.images, road)
        begin, end = pairs[abs(other) - 1]
        pairs[abs(other) - 1] = (far, end) if other > 0 else (begin, far)
        return made(stand, (tie,), {}, [(point, far)], {}, (pairs, words, images))

    def test_drawn_stands(self):
        done = empty = 0
        for rng, stand in drawn_stands(6, 300, 5):
            tie = rng.randint(1, stand.size)
            if len(stand.images[tie - 1]) > 1 and rng.random() < 0.5:
                stand = halved(stand, tie, rng.randint(1, len(stand.images[tie - 1]) - 1))
            pairs = stand.web.ties
            for point in brute.points(pairs):
                there = [abs(entry) for entry in brute.beginnings(pairs, point)]
                for tie in range(1, stand.size + 1):
                    if len(there) != 2 or there[0] == there[1] or tie not in there:
                        self.assert_raises_with(InvalidOperation, None, None, joined, stand, point, tie)
                        continue
                    parts = self.told(stand, point, tie)
                    left = [number for number in range(1, stand.size + 1) if number != tie]
                    if () in parts[2]:
                        told = ("empty", left[parts[2].index(())])
                        self.assert_raises_with(Refused, "reason", told, joined, stand, point, tie)
                        empty += 1
                    else:
                        found = joined(stand, point, tie)
                        self.assertEqual(parts_of(found), parts)
                        self.assertIs(is_stand_of(turner_of(stand), found), True)
                        self.assertEqual(Stand(*parts), found)
                        done += 1
        self.assertTrue(done > 100 and empty > 0)

    def test_halved_stands_are_joined_again(self):
        for rng, stand in drawn_stands(7, 60):
            tie = rng.randint(1, stand.size)
            if len(stand.images[tie - 1]) > 1:
                cut_stand = halved(stand, tie, rng.randint(1, len(stand.images[tie - 1]) - 1))
                self.assertEqual(joined(cut_stand, stand.web.points, stand.size + 1), stand)

    def test_an_image_can_become_empty(self):
        stand = Stand(((0, 1), (1, 0), (0, 2)), ((1,), (), ()), ((1,), (2,), (1,)))
        self.assert_raises_with(Refused, "reason", ("empty", 3), joined, stand, 1, 1)
        self.assertEqual(parts_of(joined(stand, 1, 2)), (((0, 0), (0, 1)), ((1,), ()), ((1,), (1,))))

    def test_wrong_inputs(self):
        self.assert_refuses(joined, (HALF, 1, 1), [STAND, POINT, TIE])
        for point, tie in [(1, 2), (0, 1), (0, 2)]:
            self.assert_raises_with(InvalidOperation, None, None, joined, HALF, point, tie)
        alone = rose_stand(Turner.idle(1))
        self.assert_raises_with(InvalidOperation, None, None, joined, alone, 0, 1)
        self.assert_raises_with(InvalidStand, None, None, joined, GROW, 0, 1)


class Rates(unittest.TestCase):
    """Promise [10.6]."""

    def sign(self, one, other):
        """How the rate of one stand stands to that of another one."""
        return compare_rates(counts(one), counts(other))

    def test_halved_and_folded_stands(self):
        shorter = 0
        for rng, stand in drawn_stands(8, 200):
            tie = rng.randint(1, stand.size)
            if len(stand.images[tie - 1]) > 1:
                self.assertEqual(self.sign(halved(stand, tie, 1), stand), 0)
            ready = foldable(rng, stand)
            if ready is None:
                continue
            ready, one, other = ready
            try:
                found = folded(ready, one, other)
            except Refused:
                continue
            kept, gone = sorted((one, other), key=abs)
            lengths = [len(image) for tie, image in enumerate(ready.images, start=1) if tie != abs(gone)]
            if [len(image) for image in found.images] == lengths:
                self.assertEqual(self.sign(found, stand), 0)
            else:
                self.assertLessEqual(self.sign(found, stand), 0)
                shorter += 1
        self.assertGreater(shorter, 10)

    def test_shrunk_and_pulled_stands(self):
        done = 0
        for rng, stand in drawn_stands(9, 150):
            for point in stand.web.loose_points():
                try:
                    self.assertLessEqual(self.sign(pulled(stand, point), stand), 0)
                    done += 1
                except Refused:
                    pass
        self.assertGreater(done, 20)
        for rng, stand in Shrunk().stands(10, 40):
            tree = tuple(tie for tie in range(1, stand.size + 1) if stand.images[tie - 1] == (tie,))
            if is_forest(stand.web, tree):
                self.assertLessEqual(self.sign(shrunk(stand, tree), stand), 0)


class Steps(unittest.TestCase):
    def test_stands_are_left_as_they_are(self):
        before = parts_of(HALF)
        halved(HALF, 2, 1), folded(HALF, 1, 2), joined(HALF, 1, 3), shrunk(HALF, ())
        self.assertEqual(parts_of(HALF), before)

    def test_long_returned_stands_can_be_changed(self):
        long = rose_stand(GROW.power(20))
        found = halved(long, 1, 5000)
        self.assertEqual([len(found.images[0]) >= 5000, found.size, is_stand_of(GROW.power(20), found)], [True, 3, True])
        self.assertEqual(joined(found, 1, 3), long)
