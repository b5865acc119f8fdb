"""The steps of the search [13.3]: each leads to a stand of the same turner, and the rate never rises."""

import unittest

import brute
import drawn
from noroadback.rates.firsts import firsts_of, steps_to_close, turns_in
from noroadback.rates.tables import compare_tables, counts_in, does_hang
from noroadback.search.steps import (
    beginnings_folded, cut_beginning, folded_number, folded_on, last_turn, lessened, nearest_turn, passed, shortened,
)
from noroadback.turns.turners import Turner
from noroadback.webs.changes import draft_of
from noroadback.webs.drafts import draft_halved, image_of
from noroadback.webs.stands import Stand, is_stand_of, rose_stand, stand_made
from test_search import drawn_turners


def cleaned(draft):
    """The draft without ends, forests that are led into themselves, and points with just two beginnings."""
    while True:
        following = lessened(draft) or passed(draft)
        if following is None:
            return draft
        draft = following


def turning_drafts(seed, many):
    """Drafts that hang together, cleaned, with a closed turn in an image."""
    for turner in drawn_turners(seed, many, 2, 4, 24):
        draft = cleaned(draft_of(rose_stand(turner)))
        if does_hang(counts_in(draft[2])) and nearest_turn(draft[2]) is not None:
            yield turner, draft


def is_of(turner, draft):
    """Whether a draft without empty images is a stand of a turner."""
    return is_stand_of(turner, stand_made(*draft))


class Cleaning(unittest.TestCase):
    def test_drafts_of_drawn_stands(self):
        rng = drawn.dice(1)
        done = 0
        for number in range(80):
            pairs, words, images, goals = drawn.parts(rng, 1 + number % 4, 5)
            draft = draft_of(Stand(pairs, words, images))
            while draft is not None:
                last, draft = draft, lessened(draft) or passed(draft)
                if draft is not None:
                    done += 1
                    self.assertLessEqual(compare_tables(counts_in(draft[2]), counts_in(last[2])), 0)
            self.assertTrue(all(last[2]) and is_of(Turner(goals), last))
            self.assertTrue(all(len(brute.beginnings(last[0], point)) > 2 for point in brute.points(last[0])) or number % 4 == 0)
            self.assertLessEqual(len(last[0]), max(1, 3 * (1 + number % 4) - 3))
        self.assertGreater(done, 60)


class Folding(unittest.TestCase):
    def test_each_round_of_folds_lets_the_rate_fall(self):
        done = 0
        for turner, draft in turning_drafts(2, 120):
            before = counts_in(draft[2])
            found = folded_on(draft)
            while lessened(found):
                found = lessened(found)
            self.assertEqual(compare_tables(counts_in(found[2]), before), -1)
            self.assertIs(is_of(turner, found), True)
            done += 1
        self.assertGreater(done, 15)

    def test_each_fold_closes_the_turn_by_one_first_less(self):
        longest = 0
        for turner, draft in turning_drafts(3, 150):
            tie, place = nearest_turn(draft[2])
            least = min(steps for image in draft[2] for steps in [steps_to_close(firsts_of(draft[2]), turn) for turn in turns_in(image)]
                        if steps is not None)
            draft = draft_halved(draft, tie, place)
            point, turn = draft[0][tie - 1][1], (-tie, len(draft[0]))
            steps = steps_to_close(firsts_of(draft[2]), turn)
            self.assertEqual(steps, least + 1)
            longest = max(longest, steps)
            draft, turn = shortened(draft, firsts_of(draft[2])[last_turn(draft[2], turn)[0]], turn)
            while steps > 0:
                self.assertEqual(steps_to_close(firsts_of(draft[2]), turn), steps)
                self.assertEqual(sorted(turn), sorted(brute.beginnings(draft[0], brute.begin(draft[0], turn[0]))))
                last = last_turn(draft[2], turn)
                is_taken = any(tuple(sorted(last)) in turns_in(image) for image in draft[2])
                draft, turn = beginnings_folded(draft, last, turn)
                steps -= 1
                if is_taken:
                    break
            else:
                self.assertEqual(turn[0], turn[1])
                self.assertEqual(brute.beginnings(draft[0], brute.begin(draft[0], turn[0])), (turn[0],))
            self.assertIsNotNone(point)
        self.assertGreater(longest, 2)

    def test_no_turn_is_closed(self):
        for images in [((1, 2), (1,)), ((2,), (3,), (1, 2)), ((1,),)]:
            draft = draft_of(rose_stand(Turner(images)))
            self.assertEqual([nearest_turn(draft[2]), folded_on(draft)], [None, None])


class Cutting(unittest.TestCase):
    def test_beginnings_are_followed(self):
        rng = drawn.dice(4)
        for number in range(80):
            draft = draft_of(Stand(*drawn.parts(rng, 1 + number % 4, 4)[:3]))
            told = tuple(brute.entries(len(draft[0])))
            tie = rng.choice(told)
            size = len(image_of(draft, tie))
            many = rng.randint(1, size)
            cut, followed = cut_beginning(draft, tie, many, told)
            self.assertEqual(len(cut[0]) - len(draft[0]), int(many < size))
            for before, after in zip(told, followed):
                self.assertEqual(brute.begin(cut[0], after), brute.begin(draft[0], before))
                self.assertEqual(abs(image_of(cut, after)[0]) in (abs(image_of(draft, before)[0]), len(cut[0])), True)
            if many < size:
                # What is left of the tie goes on where the beginning ends.
                beginning = followed[told.index(tie)]
                self.assertEqual(len(brute.beginnings(cut[0], brute.end(cut[0], beginning))), 2)
                whole = [entry for entry in image_of(draft, tie)[:many]]
                halves = sum(abs(entry) == abs(tie) for entry in whole)
                self.assertEqual(len(image_of(cut, beginning)), many + halves)

    def test_numbers_behind_a_fold(self):
        self.assertEqual([folded_number(entry, 2, -4) for entry in (1, 2, 3, 4, 5, -1, -2, -3, -4, -5)], [1, 2, 3, -2, 4, -1, -2, -3, 2, -4])
        self.assertEqual([folded_number(entry, -4, 2) for entry in (1, 2, 3, 4, 5, -1, -2, -3, -4, -5)], [1, 2, 3, -2, 4, -1, -2, -3, 2, -4])
        self.assertEqual([folded_number(entry, 3, 1) for entry in (3, -3, 4, -4, 2)], [1, -1, 3, -3, 2])
