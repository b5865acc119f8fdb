"""Promises [18.1] to [18.6]: pieces of kept parts and what is left, their turners, and stairs."""

import brute
import drawn
from noroadback.errors import InvalidNumber, InvalidOperation, TooMany
from noroadback.rates.tables import compare_rates, counts, table_power
from noroadback.search.search import is_search_paper, kept_parts, search_paper
from noroadback.search.stairs import is_stair_paper, piece_turner, shrunk_turner, stair_paper
from noroadback.turns.alike import alike_word, turned_by
from noroadback.turns.turners import Turner
from noroadback.webs.stands import Stand, rose_stand, turner_of
from test_search import drawn_turners, is_kept, subsets
from wrong import STAND, STRANGE, TURNER, WRONG_TIES, WrongInputs, integers_but

GROW, PLAIN = Turner(((1, 2), (1,))), Turner(((1,), (2, 1)))
IDLE, LOST = Turner(((1,),)), Turner(((1,), (3,), (2, 3, 1, -3)))
NEVER = ("never", rose_stand(IDLE))
FIRST = ((), PLAIN, ("kept", rose_stand(PLAIN), (1,)))
RIGHT = (FIRST, ((0, "piece", 0), IDLE, NEVER), ((0, "rest"), IDLE, NEVER))
BOTH = Stand(((0, 0), (1, 1), (0, 1)), ((1,), (2,), ()), ((2,), (1,), (-3,)))
# Two pieces with two ties each, and two loops beside them.
TWICE = Stand(((0, 0), (0, 0), (1, 1), (1, 1), (0, 1)), ((1,), (2,), (3,), (4,), ()), ((3,), (4,), (1, 2), (1,), (-5,)))


def pieces(stand, chosen):
    """The pieces in which some ties hang together, as pairs of the ascending ties and points."""
    found = []
    for tie in chosen:
        ties, points = {tie}, set(stand.web.ties[tie - 1])
        for _ in chosen:
            for other in chosen:
                if set(stand.web.ties[other - 1]) & points:
                    ties.add(other)
                    points |= set(stand.web.ties[other - 1])
        if (sorted(ties), sorted(points)) not in found:
            found.append((sorted(ties), sorted(points)))
    return found


def rank(piece):
    """The rank of a piece."""
    return len(piece[0]) - len(piece[1]) + 1


def goal(stand, chosen, piece):
    """The piece to which a piece is led."""
    tie = abs(stand.images[piece[0][0] - 1][-1])
    return [other for other in pieces(stand, chosen) if tie in other[0]][0]


def rounds(stand, chosen):
    """The rounds of pieces with a rank above 0, each one as the list of its pieces."""
    found = []
    for piece in pieces(stand, chosen):
        if rank(piece) > 0 and not any(piece in one for one in found):
            one = [piece]
            while goal(stand, chosen, one[-1]) != piece:
                one.append(goal(stand, chosen, one[-1]))
            found.append(one)
    return found


def piece_told(stand, chosen, point, rng=None):
    """The power and the turner of the piece with a point, by going there and back along a drawn road; None for no piece."""
    found = [(one, piece) for one in rounds(stand, chosen) for piece in one if point in piece[1]]
    if not found:
        return None
    one, (ties, points) = found[0]
    pairs = tuple(tuple(points.index(end) for end in stand.web.ties[tie - 1]) for tie in ties)
    base, words = brute.base_rounds(pairs)
    images = []
    for row in base:
        road = tuple(ties[abs(tie) - 1] * (1 if tie > 0 else -1) for tie in row)
        for _ in one:
            road = brute.led(stand.images, road)
        images.append(tuple((ties.index(abs(tie)) + 1) * (1 if tie > 0 else -1) for tie in road))
    starts = {brute.begin(pairs, road[0]) for road in images}
    there = ()
    while (brute.end(pairs, there[-1]) if there else 0) not in starts or (rng and rng.random() < 0.5):
        there = drawn.road(rng or drawn.dice(1), pairs, 0, len(there) + 1)
    return len(one), Turner(tuple(brute.reading(words, brute.shrunk(there + road + brute.back(there))) for road in images))


def rest_told(stand, chosen):
    """The turner of what is left, None if its rank is 0."""
    goals = {point: found[1][0] for found in pieces(stand, chosen) for point in found[1]}
    left = [tie for tie in range(1, stand.size + 1) if tie not in chosen]
    pairs = [tuple(goals.get(point, point) for point in stand.web.ties[tie - 1]) for tie in left]
    names = sorted({point for pair in pairs for point in pair})
    pairs = tuple(tuple(names.index(point) for point in pair) for pair in pairs)
    base, words = brute.base_rounds(pairs)
    if not base:
        return None
    images = [brute.shrunk(tuple((left.index(abs(tie)) + 1) * (1 if tie > 0 else -1) for tie in stand.images[tie_left - 1]
                                 if abs(tie) in left)) for tie_left in left]
    return Turner(tuple(brute.reading(words, brute.led(images, road)) for road in base))


def are_alike(one, other):
    """Whether two turners are alike."""
    return one.letters == other.letters and alike_word(one, other) is not None


def wants(steps):
    """What the papers of steps ask for: triples of an index and of a round of pieces, or of "rest", and nothing."""
    found = []
    for index, (_, _, paper) in enumerate(steps):
        if paper[0] == "kept":
            found += [(index, one) for one in rounds(paper[1], paper[2])]
            found += [(index, "rest")] if rest_told(paper[1], paper[2]) is not None else []
    return found


def judged(turner, steps):
    """Whether steps with right papers and right kinds of sources are a stair."""
    if not all(is_search_paper(step[1], step[2]) for step in steps) or steps[0][0] != () or not are_alike(steps[0][1], turner):
        return False
    left = wants(steps)
    for index, (source, found, _) in enumerate(steps[1:], start=1):
        if source == () or not 0 <= source[0] < index or steps[source[0]][2][0] != "kept":
            return False
        _, stand, chosen = steps[source[0]][2]
        if source[1] == "rest":
            asked, told = (source[0], "rest"), rest_told(stand, chosen)
        else:
            told = piece_told(stand, chosen, source[2])
            asked = [(source[0], one) for one in rounds(stand, chosen) if any(source[2] in piece[1] for piece in one)]
            asked, told = (asked[0], told[1]) if asked else (None, None)
        if asked not in left or not are_alike(told, found):
            return False
        left.remove(asked)
    return left == []


def blocks(rng, letters, most=40):
    """A turner that leads the first letters to words of these alone, for each number of first letters or for some."""
    images, bars = brute.idle(letters), [letter for letter in range(1, letters) if rng.random() < 0.6]
    for move in drawn.moves(rng, letters, 30):
        goals = [abs(entry) for entry in move[1:]]
        if len(move) == 2 or not any(min(goals) <= bar < max(goals) for bar in bars) or (move[0] != "swap" and goals[1] < goals[0]):
            found = brute.behind(images, brute.move_images(letters, move))
            images = found if brute.length(found) <= most else images
    return Turner(images)


def exchanged(rng, size, letters, beside):
    """A stand with so many pieces of so many letters that are exchanged in a round, and with loops beside them."""
    pairs = tuple((place, place) for place in range(1, size + 1) for _ in range(letters))
    pairs += tuple((0, place) for place in range(1, size + 1)) + ((0, 0),) * beside
    spokes = size * letters
    images = []
    for place in range(size):
        inner, shift = drawn.images(rng, letters, 3, 4), (place + 1) % size * letters
        images += [tuple(entry + (shift if entry > 0 else -shift) for entry in image) for image in inner]
    for place in range(size):
        following = (place + 1) % size
        tail = tuple(entry + (following * letters if entry > 0 else -following * letters) for entry in drawn.word(rng, letters, 2))
        images.append((spokes + following + 1,) + tail)
    for loop in range(spokes + size + 1, spokes + size + beside + 1):
        place = rng.randrange(size)
        images.append((loop, spokes + place + 1, place * letters + 1, -(spokes + place + 1)))
    names = iter(range(1, 6))
    words = tuple((next(names),) if begin == end else () for begin, end in pairs)
    return Stand(pairs, words, tuple(images))


class Pieces(WrongInputs):
    def parts(self, seed, many):
        """Stands with a kept part, drawn among all."""
        rng = drawn.dice(seed)
        for number in range(many):
            if number % 3 == 0:
                stand = exchanged(rng, *rng.choice([(2, 1, 0), (2, 1, 1), (3, 1, 1), (2, 2, 0), (2, 2, 1), (5, 1, 0), (3, 1, 2)]))
            elif number % 3 == 1:
                stand = rose_stand(blocks(rng, rng.randint(2, 5)))
            else:
                paper = search_paper(blocks(rng, rng.randint(2, 4), 20))
                if paper[0] == "never":
                    continue
                stand = paper[1]
            found = [chosen for chosen in subsets(stand) if is_kept(stand, chosen)]
            for chosen in rng.sample(found, min(len(found), 3)):
                yield rng, stand, chosen

    def test_turners_of_pieces(self):
        powers, lacking = set(), 0
        for rng, stand, chosen in self.parts(1, 120):
            for point in range(stand.web.points):
                told = piece_told(stand, chosen, point, rng)
                if told is None:
                    self.assert_raises_with(InvalidOperation, None, None, piece_turner, stand, chosen, point)
                    lacking += 1
                    continue
                found = piece_turner(stand, chosen, point)
                self.assertEqual([type(found), found[0]], [tuple, told[0]])
                self.assertTrue(are_alike(found[1], told[1]))
                powers.add(told[0])
        self.assertTrue(powers >= {1, 2, 3} and lacking > 10)

    def test_turners_of_what_is_left(self):
        ranks = set()
        for rng, stand, chosen in self.parts(2, 120):
            told, found = rest_told(stand, chosen), shrunk_turner(stand, chosen)
            ranks.add(0 if told is None else told.letters)
            self.assertEqual(sum(rank(piece) for piece in pieces(stand, chosen)) + (0 if told is None else told.letters), stand.letters)
            if told is None:
                self.assertIsNone(found)
            else:
                self.assertTrue(are_alike(found, told))
        self.assertTrue(ranks >= {0, 1, 2, 3})

    def test_rates(self):
        for rng, stand, chosen in self.parts(3, 30):
            rest = shrunk_turner(stand, chosen)
            told = [(1, rest)] if rest is not None else []
            for one in rounds(stand, chosen):
                told.append(piece_turner(stand, chosen, one[0][1][0]))
            for power, turner in told:
                if turner.letters <= 4 and turner.length <= 40:
                    paper = search_paper(turner)
                    if paper[0] == "never":
                        self.assertLessEqual(compare_rates(counts(paper[1]), table_power(counts(stand), power)), 0)

    def test_letters_that_are_kept(self):
        turner = Turner(((1, 2), (1,), (3, 1, -2), (-4, 3)))
        rose = rose_stand(turner)
        self.assertEqual([piece_turner(rose, (1, 2), 0), piece_turner(rose, (1, 2, 3), 0)[1].images], [(1, GROW), ((1, 2), (1,), (3, 1, -2))])
        self.assertEqual([shrunk_turner(rose, (1, 2)).images, shrunk_turner(rose, (1, 2, 3)).images], [((1,), (-2, 1)), ((-1,),)])

    def test_pieces_without_a_round_and_points_outside(self):
        bar = Stand(((0, 0), (1, 1), (0, 1), (1, 2), (2, 2)), ((1,), (2,), (), (), (3,)), ((1,), (2,), (3,), (4,), (5,)))
        for point, told in [(0, (1, IDLE)), (1, None), (2, None)]:
            if told is None:
                self.assert_raises_with(InvalidOperation, None, None, piece_turner, bar, (1, 4), point)
            else:
                self.assertEqual(piece_turner(bar, (1, 4), point), told)
        self.assertEqual(shrunk_turner(bar, (1, 4)), Turner.idle(2))
        self.assertEqual([piece_turner(bar, (1, 2, 3), 1)[1], shrunk_turner(bar, (1, 2, 3, 4))], [Turner.idle(2), IDLE])

    def test_exchanged_pieces(self):
        self.assertEqual([piece_turner(BOTH, (1, 2), point) for point in (0, 1)], [(2, IDLE), (2, IDLE)])
        self.assertEqual([piece_turner(TWICE, (1, 2, 3, 4), point) for point in (0, 1)], [(2, GROW), (2, GROW)])
        self.assertEqual([shrunk_turner(BOTH, (1, 2)), shrunk_turner(TWICE, (1, 2, 3, 4))], [None, None])

    def test_an_end_beside_the_kept_part(self):
        stand = Stand(((0, 0), (0, 0), (0, 1)), ((1,), (2,), ()), ((1, 2), (1,), (3,)))
        self.assertEqual([piece_turner(stand, (1, 2), 0), shrunk_turner(stand, (1, 2))], [(1, GROW), None])

    def test_wrong_inputs(self):
        ties = (InvalidOperation, None, WRONG_TIES + [(), (3,), (1, 2, 3), (1,), (2,), (1, 3)])
        self.assert_refuses(piece_turner, (BOTH, (1, 2), 1), [STAND, ties, (InvalidNumber, "given", integers_but(0, 1))])
        self.assert_refuses(shrunk_turner, (BOTH, (1, 2)), [STAND, ties])
        for stand in (rose_stand(GROW), rose_stand(PLAIN)):
            for chosen in subsets(stand):
                if not is_kept(stand, chosen):
                    self.assert_raises_with(InvalidOperation, None, None, shrunk_turner, stand, chosen)
                    self.assert_raises_with(InvalidOperation, None, None, piece_turner, stand, chosen, 0)


class Stairs(WrongInputs):
    def drawn_stairs(self, seed, many):
        """Turners with their stairs."""
        rng = drawn.dice(seed)
        plain = list(drawn_turners(seed, many // 2, 1, 4, 24))
        for turner in plain + [blocks(rng, rng.randint(2, 4), 24) for _ in range(many // 2)]:
            yield rng, turner, stair_paper(turner)

    def test_drawn_turners(self):
        sizes = set()
        for rng, turner, steps in self.drawn_stairs(4, 120):
            self.assertTrue(isinstance(steps, tuple) and all(isinstance(step, tuple) and len(step) == 3 for step in steps))
            self.assertTrue(judged(turner, steps))
            self.assertIs(is_stair_paper(turner, steps), True)
            by = turned_by(turner.letters, drawn.word(rng, turner.letters, 3))
            self.assertIs(is_stair_paper(by * turner, steps), True)
            sizes.add(len(steps))
            # The letters of the papers with "never", so many times as there are pieces on the way, are all letters.
            times, letters = [1], 0
            for source, found, paper in steps:
                if source != ():
                    _, stand, chosen = steps[source[0]][2]
                    power = piece_turner(stand, chosen, source[2])[0] if source[1] == "piece" else 1
                    times.append(times[source[0]] * power)
                letters += found.letters * times[-1] if paper[0] == "never" else 0
            self.assertEqual(letters, turner.letters)
        self.assertTrue(sizes >= {1, 3, 5, 7})

    def test_stairs_with_exchanged_pieces(self):
        rng = drawn.dice(5)
        for shape in [(2, 1, 0), (2, 1, 1), (3, 1, 1), (2, 2, 0), (3, 1, 2), (4, 1, 0)] * 3:
            stand = exchanged(rng, *shape)
            chosen = tuple(range(1, shape[0] * shape[1] + 1))
            turner = turner_of(stand)
            steps = [((), turner, ("kept", stand, chosen))]
            point = rng.randint(1, shape[0])
            below = [((0, "piece", point), piece_turner(stand, chosen, point)[1])]
            below += [((0, "rest"), shrunk_turner(stand, chosen))] if shape[2] else []
            for source, found in below:
                index = len(steps)
                for (inner, following, paper) in stair_paper(found):
                    steps.append((source if inner == () else (inner[0] + index,) + inner[1:], following, paper))
            self.assertIs(is_stair_paper(turner, tuple(steps)), True)
            self.assertTrue(judged(turner, tuple(steps)))
            for place in range(1, len(steps)):
                self.assertIs(is_stair_paper(turner, tuple(steps[:place] + steps[place + 1:])), False)
            twice = steps + [((0, "piece", point % shape[0] + 1),) + (piece_turner(stand, chosen, point % shape[0] + 1)[1],) + (
                search_paper(piece_turner(stand, chosen, point % shape[0] + 1)[1]),)]
            self.assertIs(is_stair_paper(turner, tuple(twice)), False)

    def test_values_near_a_right_stair(self):
        for rng, turner, steps in self.drawn_stairs(6, 60):
            for place in range(len(steps)):
                source, found, paper = steps[place]
                letters = found.letters
                near = [((), found, paper), (source, found), (source, found, paper, 1), [source, found, paper], (source, found.images, paper),
                        (list(source), found, paper), (source, found, paper[:-1]), (source, found, None), (source, paper, found),
                        (source, found, ("never", rose_stand(Turner.idle(5)))), ((place, "rest"), found, paper), ((place + 1, "rest"), found, paper),
                        ((-1, "rest"), found, paper), ((0, "piece", -1), found, paper), ((0, "piece", 99), found, paper),
                        ((0, "piece", True), found, paper), ((0, "Rest"), found, paper), ((0, "rest", 0), found, paper), ((0, "piece"), found, paper),
                        (("0", "rest"), found, paper), ((False, "rest"), found, paper), ((False, "piece", 0), found, paper), (None, found, paper)]
                for one in near:
                    if one != (source, found, paper):
                        self.assertIs(is_stair_paper(turner, steps[:place] + (one,) + steps[place + 1:]), False)
                other = turned_by(letters, (1,)) * found
                self.assertIs(is_stair_paper(turner, steps[:place] + ((source, other, paper),) + steps[place + 1:]), True)
                wrong = found * Turner(((-1,),) + brute.idle(letters)[1:])
                value = steps[:place] + ((source, wrong, search_paper(wrong) if wrong.length <= 40 else paper),) + steps[place + 1:]
                self.assertIs(is_stair_paper(turner, value), judged(turner, value))
            for _ in range(5):
                shuffled = (steps[0],) + tuple(rng.sample(steps[1:], len(steps) - 1))
                self.assertIs(is_stair_paper(turner, shuffled), judged(turner, shuffled))
            for value in [(), steps[:-1], steps + steps[-1:], list(steps), steps[1:], (steps,), steps + (None,)]:
                self.assertIs(is_stair_paper(turner, value), False)
            self.assertIs(is_stair_paper(turner, (((), turner, search_paper(turner)),) + steps[1:]), True)

    def test_other_points_and_other_stairs(self):
        swap = Turner(((2,), (1,)))
        turned = Stand(((0, 0), (0, 0)), ((1, 2), (2,)), ((1,), (-2, 1)))
        flip = Turner(((-1,),))
        long = (((), swap, ("kept", turned, (1,))), ((0, "piece", 0), IDLE, NEVER), ((0, "rest"), flip, ("never", rose_stand(flip))))
        self.assertEqual([is_stair_paper(swap, long), is_stair_paper(swap, (((), swap, ("never", rose_stand(swap))),))], [True, True])
        self.assertEqual([is_stair_paper(PLAIN, RIGHT), is_stair_paper(PLAIN, (RIGHT[0], RIGHT[2], RIGHT[1]))], [True, True])
        self.assertEqual([is_stair_paper(PLAIN, RIGHT[:2]), is_stair_paper(GROW, RIGHT), is_stair_paper(IDLE, RIGHT[1:2])], [False, False, False])
        self.assertIs(is_stair_paper(IDLE, (((), IDLE, NEVER),)), True)

    def test_four_letters_and_five(self):
        self.assertTrue(judged(Turner.idle(4), stair_paper(Turner.idle(4))))
        self.assert_raises_with(TooMany, "most", 4, stair_paper, Turner.idle(5))
        self.assert_raises_with(TooMany, "most", 4, stair_paper, Turner(((1,), (2,), (3,), (4,), (5,) + (1,) * 50)))
        five = rose_stand(Turner.idle(5))
        inner = stair_paper(Turner.idle(4))
        steps = [((), Turner.idle(5), ("kept", five, (1, 2, 3, 4)))]
        steps += [((0, "piece", 0) if source == () else (source[0] + 1,) + source[1:], found, paper) for source, found, paper in inner]
        steps += [((0, "rest"), IDLE, NEVER)]
        self.assertIs(is_stair_paper(Turner.idle(5), tuple(steps)), True)

    def test_40_letters_together_and_41(self):
        for letters in (2, 3, 4):
            forty = Turner(brute.idle(letters)[:-1] + ((letters,) + (1,) * (40 - letters),))
            more = Turner(brute.idle(letters)[:-1] + ((letters,) + (1,) * (41 - letters),))
            self.assertEqual([forty.length, more.length], [40, 41])
            self.assertTrue(judged(forty, stair_paper(forty)))
            self.assert_raises_with(TooMany, "most", 40, stair_paper, more)
            self.assertIs(is_stair_paper(more, stair_paper(forty)), False)

    def test_images_of_any_length(self):
        power = PLAIN.power(20) * Turner(((1,), (2,) + (1,) * 199))
        rose = rose_stand(power)
        steps = (((), power, ("kept", rose, (1,))), ((0, "piece", 0), IDLE, NEVER), ((0, "rest"), IDLE, NEVER))
        self.assertIs(is_stair_paper(power, steps), True)
        tall = GROW.power(20)
        self.assertIs(is_stair_paper(tall, (((), tall, ("never", rose_stand(tall))),)), True)

    def test_wrong_inputs(self):
        self.assert_refuses(stair_paper, (GROW,), [TURNER])
        self.assert_refuses(is_stair_paper, (GROW, None), [TURNER, None])
        self.assert_judges_strange(is_stair_paper, (GROW,), [])
        for value in STRANGE:
            for near in [(value,), (value, IDLE, NEVER), (FIRST, value), (FIRST, (value, IDLE, NEVER), RIGHT[2]), (FIRST, ((0, value), IDLE, NEVER), RIGHT[1]),
                         (FIRST, ((0, "piece", value), IDLE, NEVER), RIGHT[2]), (FIRST, ((value, "piece", 0), IDLE, NEVER), RIGHT[2])]:
                self.assertIs(is_stair_paper(PLAIN, near), False)
        for source in [(10 ** 5000, "rest"), (0, "piece", 10 ** 5000), (0, "piece", 1)]:
            self.assertIs(is_stair_paper(PLAIN, (FIRST, (source, IDLE, NEVER), RIGHT[2])), False)
        self.assertEqual(kept_parts(FIRST[2][1]), ((1,),))
