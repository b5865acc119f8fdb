"""Promises [17.1] to [17.5]: words, rings and roads that stay."""

import brute
import drawn
import never
from noroadback.base.lots import are_one_lot, lot_rank
from noroadback.errors import InvalidNumber, TooMany
from noroadback.rates.tables import compare_rates, counts, hangs_together
from noroadback.search import staying as module
from noroadback.search.staying import staying_base, staying_rings, staying_roads, staying_words
from noroadback.turns.alike import turned_by
from noroadback.turns.turners import Turner
from noroadback.webs.stands import Stand, rose_stand, turner_of
from wrong import STAND, TURNER, WrongInputs, integers_but

GROW, PLAIN = Turner(((1, 2), (1,))), Turner(((1,), (2, 1)))
STAYS = Turner(((1,), (2,), (1, 2, -1, -2, 3)))
HALF = Stand(((0, 1), (0, 0), (1, 0)), ((1,), (2,), ()), ((1, 3), (1, 3), (2,)))
MOST = {1: 7, 2: 6, 3: 4, 4: 3, 5: 3}


def drawn_turners(seed, many):
    """Turners that keep some words, or rings, as a rule: short ones, some that keep letters, and turned ones."""
    rng = drawn.dice(seed)
    for number in range(many):
        letters = 1 + number % 5
        turner = Turner(drawn.images(rng, letters, rng.randint(0, 3), 6))
        if number % 3 == 0:
            turner = turned_by(letters, drawn.word(rng, letters, 3)) * turner
        if number % 3 == 1:
            by = Turner(drawn.images(rng, letters, 2, 6))
            turner = by * turner * by.undone()
        yield rng, turner


def told_words(turner, most):
    """All words, from one entry to the most, that a turner leads to themselves."""
    return [word for word in brute.words_to(turner.letters, most)[1:] if brute.told(turner.images, word) == word]


def tight_roads(stand, length):
    """All tight roads with so many ties, ascending."""
    roads = [(tie,) for tie in brute.entries(stand.size)]
    for _ in range(length - 1):
        roads = [road + (tie,) for road in roads for tie in brute.beginnings(stand.web.ties, brute.end(stand.web.ties, road[-1]))
                 if tie != -road[-1]]
    return roads


class Constants(WrongInputs):
    def test_constants(self):
        self.assertEqual([module.MAX_WORD, module.MAX_ROAD, module.MAX_LISTED], [7, 8, 100000])


class Words(WrongInputs):
    def test_drawn_turners(self):
        found = 0
        for rng, turner in drawn_turners(1, 100):
            most = rng.randint(1, MOST[turner.letters])
            told = told_words(turner, most)
            self.assertEqual(staying_words(turner, most), tuple(told))
            self.assertEqual(staying_words(turner.undone(), most), tuple(told))
            found += len(told) > 0
        self.assertGreater(found, 30)

    def test_products_contraries_and_roots(self):
        for rng, turner in drawn_turners(2, 60):
            told = staying_words(turner, MOST[turner.letters])
            if told:
                one, other = rng.choice(told), rng.choice(told)
                self.assertEqual(turner(brute.times(one, other)), brute.times(one, other))
                self.assertIn(brute.back(one), told)
                for word in brute.words_to(turner.letters, 2)[1:]:
                    if brute.raised(word, 2) in told or brute.raised(word, 3) in told:
                        self.assertIn(word, told)

    def test_words_of_7_entries_and_8(self):
        self.assertEqual([len(staying_words(PLAIN, 7)), staying_words(PLAIN, 7)[-1]], [len(told_words(PLAIN, 7)), told_words(PLAIN, 7)[-1]])
        self.assertEqual(staying_words(Turner(((1,),)), 7)[-2:], ((-1,) * 7, (1,) * 7))
        for call in (staying_words, staying_base, staying_rings):
            for length in (0, 8, -1):
                self.assert_raises_with(InvalidNumber, "given", length, call, GROW, length)

    def test_more_than_100000_words(self):
        # There are 93,750 words of three letters and 7 entries, 134,456 of four and 6, 590,490 of five and 6.
        self.assertEqual([len(staying_words(Turner.idle(3), 7)), len(staying_words(Turner.idle(4), 5))], [117186, 22408])
        self.assertEqual(len(staying_words(Turner.idle(5), 5)), 73810)
        for call in (staying_words, staying_base, staying_rings):
            for letters, length in [(4, 6), (4, 7), (5, 6), (5, 7)]:
                self.assert_raises_with(TooMany, "most", 100000, call, Turner.idle(letters), length)
            self.assert_raises_with(InvalidNumber, "given", 8, call, Turner.idle(5), 8)

    def test_long_images(self):
        power = Turner(((2,), (3,), (1, 2))).power(20)
        long = power * Turner(((1,), (2,), (3, 1)))
        self.assertEqual([staying_words(long, 6), staying_rings(long, 6)], [(), ()])
        tall = turned_by(3, (1, 2) * 100)
        self.assertEqual([staying_words(tall, 4), staying_words(turned_by(3, (1, 2)), 4)[:2]],
                         [((-2, -1), (1, 2), (-2, -1, -2, -1), (1, 2, 1, 2)), ((-2, -1), (1, 2))])

    def test_wrong_inputs(self):
        length = (InvalidNumber, "given", integers_but(1, 7))
        for call in (staying_words, staying_base, staying_rings):
            self.assert_refuses(call, (GROW, 3), [TURNER, length])


class Bases(WrongInputs):
    def test_drawn_turners(self):
        ranks = set()
        for rng, turner in drawn_turners(3, 100):
            most = rng.randint(1, MOST[turner.letters])
            told, base = told_words(turner, most), staying_base(turner, most)
            self.assertTrue(len(base) <= turner.letters and all(1 <= len(word) <= most for word in base))
            self.assertTrue(all(turner(word) == word for word in base))
            self.assertEqual(lot_rank(turner.letters, base), len(base))
            web = brute.web(base)
            self.assertTrue(all(brute.is_in_lot(web, word) for word in told))
            ranks.add(len(base))
        self.assertTrue(ranks >= {0, 1, 2, 3})

    def test_told_lots(self):
        self.assertIs(are_one_lot(2, staying_base(PLAIN, 3), ((1,), (2, 1, -2))), True)
        self.assertIs(are_one_lot(3, staying_base(STAYS, 2), ((1,), (2,))), True)
        self.assertEqual([len(staying_base(Turner.idle(letters), 5)) for letters in range(1, 6)], [1, 2, 3, 4, 5])
        self.assertEqual([staying_base(Turner(((-1,),)), 7), len(staying_base(Turner.idle(3), 7))], [(), 3])


class Rings(WrongInputs):
    def test_drawn_turners(self):
        found = 0
        for rng, turner in drawn_turners(4, 100):
            most = rng.randint(1, MOST[turner.letters])
            rings = {brute.ring(word) for word in brute.words_to(turner.letters, most)[1:]}
            told = [ring for ring in rings if brute.ring(brute.told(turner.images, ring)) == ring]
            told = tuple(sorted(told, key=lambda ring: (len(ring), ring)))
            self.assertEqual(staying_rings(turner, most), told)
            by = turned_by(turner.letters, drawn.word(rng, turner.letters, 5))
            self.assertEqual(staying_rings(by * turner, most), told)
            self.assertTrue(all(brute.ring(brute.back(ring)) in told for ring in told))
            self.assertTrue(all(brute.ring(word) in told for word in staying_words(turner, most)))
            found += len(told) > 0
        self.assertGreater(found, 40)

    def test_rings_of_7_entries(self):
        rings = staying_rings(Turner.idle(2), 7)
        self.assertEqual(rings, tuple(sorted({brute.ring(word) for word in brute.words_to(2, 7)[1:]}, key=lambda ring: (len(ring), ring))))
        self.assertEqual(staying_rings(turned_by(2, (1, 2, 2, -1)), 7), rings)


class Roads(WrongInputs):
    def drawn_stands(self, seed, many):
        """Stands made from drawn moves and roads, and roses."""
        for rng, turner in drawn_turners(seed, many):
            yield rng, rose_stand(turner)
            yield rng, Stand(*drawn.parts(rng, 1 + turner.letters % 3, 3, drawn.images(rng, 1 + turner.letters % 3, 1, 4))[:3])

    def test_drawn_stands(self):
        found = 0
        for rng, stand in self.drawn_stands(5, 80):
            most = rng.randint(1, 3 if stand.size > 3 else 5)
            told = [road for length in range(1, most + 1) for road in tight_roads(stand, length) if brute.led(stand.images, road) == road]
            whole = [road for road in told if not any(road[:place] in told for place in range(1, len(road)))]
            self.assertEqual(staying_roads(stand, most), tuple(whole))
            found += len(whole) > 0
            for road in told:
                # It is made of whole ones in just one way: each first piece that is whole is taken off.
                while road:
                    firsts = [road[:place] for place in range(1, len(road) + 1) if road[:place] in whole]
                    self.assertEqual(len(firsts), 1)
                    road = road[len(firsts[0]):]
        self.assertGreater(found, 50)

    def test_rounds_that_stay_read_to_words_whose_ring_stays(self):
        for rng, stand in self.drawn_stands(6, 60):
            for road in staying_roads(stand, 3):
                if stand.web.begin(road[0]) == stand.web.end(road[-1]) and road[0] != -road[-1]:
                    word = brute.reading(stand.words, road)
                    self.assertEqual(brute.ring(brute.told(turner_of(stand).images, word)), brute.ring(word))

    def test_no_open_road_stays(self):
        for rng, stand in never.stands(7, 60, 10, 6):
            if hangs_together(counts(stand)) and compare_rates(counts(stand), ((1,),)) == 1:
                images = never.images_of(stand)
                self.assertFalse([road for road in staying_roads(stand, 3) if never.is_open(images, road)])

    def test_roads_of_8_ties_and_9(self):
        rose = rose_stand(PLAIN)
        told = [road for length in range(1, 9) for road in tight_roads(rose, length) if brute.led(rose.images, road) == road]
        self.assertEqual(staying_roads(rose, 8), tuple(road for road in told if not any(road[:place] in told for place in range(1, 9)[:len(road) - 1])))
        for length in (0, 9, -1):
            self.assert_raises_with(InvalidNumber, "given", length, staying_roads, HALF, length)

    def test_more_than_100000_tight_roads(self):
        idle = [rose_stand(Turner.idle(letters)) for letters in range(1, 6)]
        self.assertEqual([len(staying_roads(stand, length)) for stand, length in zip(idle, (8, 8, 7, 5, 5))], [2, 4, 6, 8, 10])
        for letters, length in [(3, 8), (4, 6), (5, 6), (5, 8)]:
            self.assert_raises_with(TooMany, "most", 100000, staying_roads, idle[letters - 1], length)
        # Four loops at two points with a tie between them: just so many tight roads there are.
        pairs = ((0, 0), (0, 0), (1, 1), (1, 1), (0, 1))
        stand = Stand(pairs, ((1,), (2,), (3,), (4,), ()), tuple((tie,) for tie in range(1, 6)))
        for length in (5, 6, 7, 8):
            if len(tight_roads(stand, length)) > 100000:
                self.assert_raises_with(TooMany, "most", 100000, staying_roads, stand, length)
            else:
                self.assertEqual(staying_roads(stand, length), ((-5,), (-4,), (-3,), (-2,), (-1,), (1,), (2,), (3,), (4,), (5,)))

    def test_long_images(self):
        long = rose_stand(turned_by(2, (1, 2) * 100))
        self.assertEqual(staying_roads(long, 4), ((-2, -1), (1, 2)))

    def test_wrong_inputs(self):
        self.assert_refuses(staying_roads, (HALF, 3), [STAND, (InvalidNumber, "given", integers_but(1, 8))])
