"""Statements that are not true: promises [0.25], [6.5], [7.7], [8.4], [9.6], [10.7], [11.7], [12.8], [13.5] and behind."""

import unittest

import brute
import drawn
from noroadback.desk.desk import Desk
from noroadback.errors import InvalidOperation, InvalidTurner, Refused
from noroadback.rates.gates import back_paper, closed_turns, gates, is_open, turns_taken
from noroadback.rates.tables import compare_rates, counts, hangs_together, is_rate_paper, own_poly, pieces_of, table_power
from noroadback.rims.rims import rims, rims_paper, twist
from noroadback.search.fates import fate, ring_led
from noroadback.search.lost import common_of, lost_bound, most_lost
from noroadback.search.rows import next_ties, row_numbers, rows_in
from noroadback.search.search import is_search_paper, kept_parts, search_paper
from noroadback.search.stairs import is_stair_paper, piece_turner, stair_paper
from noroadback.search.staying import staying_base, staying_rings, staying_words
from noroadback.text.texts import read_turner
from noroadback.turns.alike import alike_word, exact_order, table_order, turned_by, turner_order
from noroadback.turns.turners import Turner, table_of
from noroadback.turns.two import of_table, two_alike, two_kind
from noroadback.webs.changes import folded, halved, joined
from noroadback.webs.stands import Stand, behind, is_stand_of, led, rose_stand, stand_power, turner_of
from noroadback.webs.webs import Web, base_naming, reading, tight_round

GROW, THREE, PLAIN = Turner(((1, 2), (1,))), Turner(((2,), (3,), (1, 2))), Turner(((1,), (2, 1)))
SWAP, SIX = Turner(((2,), (1,))), Turner(((1, 2), (-1,)))
STAYS, BENT = Turner(((1,), (2,), (1, 2, -1, -2, 3))), turned_by(2, (1, 1)) * Turner(((2,), (-2, -1)))
ROSE, LATE = rose_stand(GROW), rose_stand(SIX)
HALF = Stand(((0, 1), (0, 0), (1, 0)), ((1,), (2,), ()), ((1, 3), (1, 3), (2,)))


class Turners(unittest.TestCase):
    def test_a_turner_and_the_one_that_undoes_it_have_equal_rates(self):
        one, other = search_paper(THREE), search_paper(THREE.undone())
        self.assertEqual([one[0], other[0], compare_rates(counts(one[1]), counts(other[1]))], ["never", "never", -1])

    def test_turners_with_equal_tables_are_alike(self):
        self.assertEqual([table_of(STAYS), alike_word(STAYS, Turner.idle(3))], [table_of(Turner.idle(3)), None])

    def test_a_turner_whose_table_has_an_order_has_one(self):
        self.assertEqual([table_order(table_of(STAYS)), turner_order(STAYS), exact_order(STAYS)], [1, None, None])

    def test_a_turner_with_an_order_up_to_a_word_has_an_idle_power(self):
        self.assertEqual([turner_order(BENT)[0], exact_order(BENT)], [3, None])

    def test_the_order_of_a_product_is_a_divisor_of_the_product_of_orders(self):
        one = Turner(((-1,), (2, 1)))
        self.assertEqual([turner_order(one)[0], turner_order(SWAP)[0], turner_order(one * SWAP)[0]], [2, 2, 6])

    def test_a_ring_that_a_power_leads_to_itself_is_so_by_the_turner(self):
        word = (1, 2, -1, -2)
        self.assertNotEqual(brute.ring(GROW(word)), brute.ring(word))
        self.assertEqual(brute.ring(GROW.power(2)(word)), brute.ring(word))

    def test_turners_with_equal_numbers_are_led_to_one_another(self):
        one, other = of_table(((1, 4), (1, 5))), of_table(((1, 2), (2, 5)))
        self.assertEqual([two_kind(one), two_alike(one, other)], [two_kind(other), None])

    def test_a_kept_ring_is_led_to_itself(self):
        turner = Turner(((-1,), (-2, 1)))
        name, word = two_kind(turner)
        self.assertEqual([name, brute.ring(turner(word))], ["kept", brute.ring(brute.back(word))])


class Webs(unittest.TestCase):
    def test_a_tight_road_that_is_a_round_is_a_tight_round(self):
        rose = Web(((0, 0), (0, 0)))
        self.assertEqual([rose.tight((1, 2, -1)), tight_round(rose, (1, 2, -1))], [(1, 2, -1), (2,)])

    def test_webs_with_equally_many_ties_and_points_have_equally_many_ends(self):
        self.assertEqual([Web(((0, 1), (0, 0))).loose_points(), Web(((0, 1), (0, 1))).loose_points()], [(1,), ()])

    def test_the_reading_of_a_tight_road_is_longer_than_those_of_its_parts(self):
        rose = Web(((0, 0), (0, 0)))
        words = ((1, 2), (-2,))
        self.assertEqual([reading(rose, words, (1, 2)), reading(rose, words, (1,)), base_naming(rose)], [(1,), (1, 2), ((1,), (2,))])


class Stands(unittest.TestCase):
    def test_stands_of_one_turner_have_equal_counts(self):
        one = joined(HALF, 1, 1)
        self.assertEqual([is_stand_of(GROW, one), counts(one) == counts(ROSE)], [True, False])

    def test_a_tie_between_unlike_points_is_led_to_such_a_road(self):
        image = led(HALF, (1,))
        self.assertEqual([HALF.web.ties[0], HALF.web.begin(image[0]), HALF.web.end(image[-1])], [(0, 1), 0, 0])

    def test_of_two_stands_with_one_web_one_behind_the_other_is_a_stand(self):
        with self.assertRaises(InvalidOperation):
            behind(HALF, Stand(HALF.web.ties, ((-1,), (2,), ()), HALF.images))
        stand = Stand(((0, 1), (0, 2), (1, 2)), ((), (), (1,)), ((-1, 2), (-1, 2), (-2, 1, 3)))
        with self.assertRaises(Refused):
            behind(stand, stand)

    def test_joining_never_raises_the_rate(self):
        rng = drawn.dice(1)
        signs = set()
        for number in range(400):
            stand = Stand(*drawn.parts(rng, 2, 4)[:3])
            for point in brute.points(stand.web.ties):
                there = [abs(tie) for tie in brute.beginnings(stand.web.ties, point)]
                if len(there) == 2 and there[0] != there[1]:
                    for tie in there:
                        try:
                            signs.add(compare_rates(counts(joined(stand, point, tie)), counts(stand)))
                        except Refused:
                            pass
        self.assertEqual(signs, {-1, 0, 1})

    def test_both_ways_of_joining_lead_to_equal_counts(self):
        self.assertEqual([counts(joined(HALF, 1, 3)), counts(joined(HALF, 1, 1))], [((1, 1), (1, 0)), ((0, 1), (1, 1))])

    def test_a_halved_stand_that_is_folded_has_as_many_ties(self):
        # Here two ties are halved ahead of the fold, and one in HALF.
        rose = rose_stand(Turner(((1, 2), (1, 2, 2))))
        twice = halved(halved(rose, 1, 1), 2, 2)
        self.assertEqual([rose.size, folded(twice, 1, 2).size, ROSE.size, folded(HALF, 1, 2).size], [2, 3, 2, 2])


class Tables(unittest.TestCase):
    def test_some_power_of_a_table_that_hangs_together_is_above_0(self):
        turned = ((0, 1), (1, 0))
        self.assertIs(hangs_together(turned), True)
        self.assertTrue(all(min(map(min, table_power(turned, many))) == 0 for many in range(20)))

    def test_with_the_rate_1_some_power_is_the_table_again(self):
        table = ((1, 1), (0, 1))
        self.assertEqual(compare_rates(table, ((1,),)), 0)
        self.assertTrue(all(table_power(table, many) != table for many in range(2, 20)))

    def test_tables_with_one_own_polynomial_have_equal_pieces(self):
        one, other = ((1, 0), (0, 1)), ((1, 1), (0, 1))
        self.assertEqual(own_poly(one), own_poly(other))
        four, two = ((0, 4), (1, 0)), ((0, 1), (4, 0))
        self.assertEqual([own_poly(four) == own_poly(two), four == two], [True, False])
        wide, apart = ((1, 1, 1), (1, 1, 1), (1, 1, 1)), ((3, 0, 0), (0, 0, 1), (0, 0, 0))
        self.assertEqual([own_poly(wide) == own_poly(apart), pieces_of(wide), pieces_of(apart)], [True, ((0, 1, 2),), ((0,), (1,), (2,))])

    def test_papers_for_tables_that_do_not_hang_together(self):
        with self.assertRaises(Refused):
            is_rate_paper(((1, 0), (1, 1)), (1, 1), ("below", (1, 1)))


class Searches(unittest.TestCase):
    def test_images_that_are_tight_twice_are_so_for_ever(self):
        self.assertTrue(all(brute.is_bare(image) for image in stand_power(LATE, 2).images))
        self.assertEqual(back_paper(LATE), ("back", 4, 1))

    def test_there_are_at_most_two_gates_at_a_point(self):
        self.assertEqual([back_paper(ROSE)[0], len(gates(ROSE)[0])], ["never", 3])

    def test_all_open_turns_are_taken(self):
        self.assertNotIn((-2, -1), closed_turns(ROSE) + turns_taken(ROSE))

    def test_there_is_just_one_sort_for_each_turner(self):
        turned = Stand(((0, 0), (0, 0)), ((1, 2), (2,)), ((1,), (-2, 1)))
        self.assertIs(is_search_paper(SWAP, ("never", rose_stand(SWAP))), True)
        self.assertIs(is_search_paper(SWAP, ("kept", turned, (1,))), True)

    def test_the_rate_of_the_rose_is_the_least_one(self):
        stand = search_paper(SIX)[1]
        self.assertEqual([compare_rates(counts(stand), ((1,),)), compare_rates(counts(LATE), ((1,),))], [0, 1])

    def test_a_stand_that_never_turns_back_has_counts_that_hang_together(self):
        rose = rose_stand(PLAIN)
        self.assertEqual([back_paper(rose)[0], hangs_together(counts(rose)), kept_parts(rose)], ["never", False, ((1,),)])

    def test_a_stand_whose_images_are_tight_never_turns_back(self):
        self.assertEqual([all(brute.is_bare(image) for image in LATE.images), back_paper(LATE)[0]], [True, "back"])


class Far(unittest.TestCase):
    def test_the_bound_is_lost_for_some_two_roads(self):
        both = rose_stand(Turner(((2, 1, 2), (2,))))
        roads = [word for word in brute.words_to(2, 5) if word]
        most = max(common_of(both, one, other) for one in roads for other in roads if one[0] != other[0])
        self.assertEqual([lost_bound(both), most_lost(both)[0], most], [2, 1, 1])

    def test_roads_that_lose_something_begin_with_ties_to_one_point(self):
        self.assertEqual([common_of(HALF, (1,), (2,)), HALF.web.end(1), HALF.web.end(2)], [2, 1, 0])

    def test_the_power_2_loses_twice_what_the_stand_loses(self):
        self.assertEqual([most_lost(ROSE)[0], most_lost(stand_power(ROSE, 2))[0]], [1, 3])

    def test_open_rounds_that_come_round_have_one_tie(self):
        swap = rose_stand(SWAP)
        self.assertEqual([is_open(swap, (1, 2, 1, 2)), fate(swap, (1, 2))], [True, ("round", 1)])

    def test_a_round_that_a_power_leads_to_its_ring_is_led_to_it_by_the_first(self):
        self.assertEqual(fate(ROSE, (1, 2, -1, -2)), ("round", 2))

    def test_each_ring_that_grows_is_longer_than_the_one_ahead(self):
        self.assertEqual([fate(ROSE, (2,))[0], [len(ring_led(ROSE, (2,), many)) for many in range(5)]], ["grows", [1, 1, 2, 3, 5]])

    def test_a_ring_that_grows_grows_as_powers_of_a_rate_do(self):
        rose = rose_stand(PLAIN)
        self.assertEqual([len(ring_led(rose, (2,), many)) for many in range(13)], list(range(1, 14)))

    def test_the_rows_of_two_ties_are_the_same(self):
        rose = rose_stand(PLAIN)
        self.assertEqual([rows_in(rose, 1, 1), rows_in(rose, 2, 1), row_numbers(rose, 1, 3)], [((1,),), ((1,), (2,)), (1, 0, 0)])

    def test_each_open_road_is_a_row(self):
        self.assertEqual([is_open(ROSE, (2, 2)), (2, 2) in rows_in(ROSE, 1, 2), next_ties(ROSE, 1, (2,))], [True, False, (1,)])

    def test_there_are_at_most_so_many_rows(self):
        self.assertGreater(row_numbers(rose_stand(Turner(((1, 2), (1, 3), (1,)))), 1, 2)[1], 3)

    def test_a_ring_that_stays_is_that_of_a_word_that_stays(self):
        turner = turned_by(2, (1,))
        self.assertIn((2,), staying_rings(turner, 1))
        self.assertNotIn((2,), [brute.ring(word) for word in staying_words(turner, 6)])

    def test_only_the_idle_turner_has_so_many_words_in_a_base_of_those_that_stay(self):
        self.assertEqual([len(staying_base(PLAIN, 3)), PLAIN == Turner.idle(2)], [2, False])


class Stairs(unittest.TestCase):
    def test_the_greatest_rate_in_a_stair_is_the_rate_with_which_rings_grow(self):
        lost = Turner(((1,), (3,), (2, 3, 1, -3)))
        papers = [paper for _, _, paper in stair_paper(lost) if paper[0] == "never"]
        self.assertEqual([compare_rates(counts(stand), ((1,),)) for _, stand in papers], [0] * len(papers))
        ring, sizes = (2,), []
        for _ in range(7):
            sizes.append(len(ring))
            ring = brute.ring(brute.told(lost.images, ring))
        self.assertEqual(sizes, [1, 1, 4, 10, 23, 51, 112])

    def test_all_stairs_of_a_turner_have_equally_many_steps(self):
        turned = Stand(((0, 0), (0, 0)), ((1, 2), (2,)), ((1,), (-2, 1)))
        one, other = Turner(((1,),)), Turner(((-1,),))
        long = (((), SWAP, ("kept", turned, (1,))), ((0, "piece", 0), one, ("never", rose_stand(one))),
                ((0, "rest"), other, ("never", rose_stand(other))))
        short = (((), SWAP, ("never", rose_stand(SWAP))),)
        self.assertEqual([is_stair_paper(SWAP, long), is_stair_paper(SWAP, short)], [True, True])

    def test_the_turner_of_a_piece_is_the_turner_on_some_of_the_letters(self):
        stand = Stand(((0, 0), (0, 0), (1, 1), (1, 1), (0, 1)), ((1,), (2,), (3,), (4,), ()), ((3,), (4,), (1, 2), (1,), (-5,)))
        images = turner_of(stand).images
        self.assertEqual(piece_turner(stand, (1, 2, 3, 4), 0), (2, GROW))
        for letters in [(1, 2), (3, 4)]:
            self.assertFalse(all(abs(entry) in letters for letter in letters for entry in images[letter - 1]))


class Rims(unittest.TestCase):
    def test_orders_with_equally_many_rims_are_led_to_one_another_by_renaming(self):
        one, other = rims(3, (1, -1, 2, -2, 3, -3)), rims(3, (1, 2, -2, -1, 3, -3))
        self.assertEqual([sorted(map(len, one)), sorted(map(len, other))], [[1, 1, 1, 3], [1, 1, 2, 2]])

    def test_a_turner_that_leads_one_rim_to_itself_keeps_the_rims(self):
        self.assertIn((-1,), rims(2, (1, -1, 2, -2)))
        self.assertEqual([PLAIN((-1,)), rims_paper(2, (1, -1, 2, -2), PLAIN)[0]], [(-1,), "moved"])

    def test_each_turner_that_keeps_the_rims_is_alike_to_a_product_of_twists(self):
        disk, turner = (1, -1, 2, -2), Turner(((2,), (-2, 1, 2)))
        self.assertEqual(rims_paper(2, disk, turner), ("kept", 1, (1, 0, 2)))
        for letter in (1, 2, -1, -2):
            self.assertIsNotNone(alike_word(twist(2, disk, letter), Turner.idle(2)))
        self.assertIsNone(alike_word(turner, Turner.idle(2)))


class Texts(unittest.TestCase):
    def test_each_text_with_right_pieces_tells_something(self):
        with self.assertRaises(InvalidTurner):
            read_turner("turner aa b")

    def test_deeds_that_undo_break_no_saying_about_an_order(self):
        # They can, where the order is too hard to tell behind them.
        desk = Desk(2)
        desk.do(("put", "x", Turner(((2,), (-2, -1)))), ("put", "by", Turner(((1,) * 5 + (2,), (1,)))))
        desk.say(("order", "x", 3))
        reasons = []
        for _ in range(6):
            try:
                desk.do(("led", "x", "by"))
            except Refused as error:
                reasons.append(error.reason[0])
        self.assertTrue(reasons)
