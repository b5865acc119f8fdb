"""Each example of the document for stairs, rims, the desk and texts."""

import unittest

from noroadback.desk.desk import Desk
from noroadback.errors import InvalidOperation, InvalidOrder, ParseError, Refused
from noroadback.rims.rims import handle_number, is_order, is_rims_paper, rims, rims_paper, twist, twisted
from noroadback.search.stairs import is_stair_paper, piece_turner, shrunk_turner, stair_paper
from noroadback.text.texts import read, read_stand, read_turner, read_word, write_stand, write_turner, write_web, write_word
from noroadback.turns.turners import Turner
from noroadback.webs.stands import Stand, rose_stand

GROW, THREE, PLAIN = Turner(((1, 2), (1,))), Turner(((2,), (3,), (1, 2))), Turner(((1,), (2, 1)))
ROSE = rose_stand(GROW)
HALF = Stand(((0, 1), (0, 0), (1, 0)), ((1,), (2,), ()), ((1, 3), (1, 3), (2,)))
IDLE, LOST = Turner(((1,),)), Turner(((1,), (3,), (2, 3, 1, -3)))
NEVER = ("never", rose_stand(IDLE))
FIRST = ((), PLAIN, ("kept", rose_stand(PLAIN), (1,)))
BOTH = Stand(((0, 0), (1, 1), (0, 1)), ((1,), (2,), ()), ((2,), (1,), (-3,)))
HANDLE, DISK = (1, 2, -1, -2), (1, -1, 2, -2)


class StairExamples(unittest.TestCase):
    def test_stairs(self):
        found = [piece_turner(rose_stand(PLAIN), (1,), 0) == (1, IDLE), shrunk_turner(rose_stand(PLAIN), (1,)) == IDLE,
                 shrunk_turner(rose_stand(LOST), (1,)).letters]
        self.assertEqual(found, [True, True, 2])
        found = [is_stair_paper(PLAIN, (FIRST, ((0, "piece", 0), IDLE, NEVER), ((0, "rest"), IDLE, NEVER))),
                 is_stair_paper(PLAIN, (FIRST, ((0, "rest"), IDLE, NEVER))), is_stair_paper(GROW, (((), GROW, ("never", ROSE)),))]
        self.assertEqual(found, [True, False, True])
        self.assertEqual([len(stair_paper(GROW)), len(stair_paper(PLAIN)), stair_paper(PLAIN)[0][2][0]], [1, 3, "kept"])
        self.assertEqual([piece_turner(BOTH, (1, 2), 1) == (2, IDLE), shrunk_turner(BOTH, (1, 2))], [True, None])
        with self.assertRaises(InvalidOperation):
            shrunk_turner(ROSE, (1,))


class RimExamples(unittest.TestCase):
    def test_rims(self):
        found = [rims(2, HANDLE), handle_number(2, HANDLE), rims(2, DISK), handle_number(2, DISK), is_order(2, (1, 2, -1, 1)), rims(1, (1, -1))]
        self.assertEqual(found, [((-2, -1, 2, 1),), 1, ((-2,), (-1,), (1, 2)), 0, False, ((-1,), (1,))])
        found = [twist(2, HANDLE, 1) == Turner(((1,), (1, 2))), twist(2, HANDLE, 2) == Turner(((1, -2), (2,))), twist(2, DISK, 1) == Turner.idle(2)]
        self.assertEqual(found, [True, True, True])
        found = [rims_paper(2, HANDLE, GROW), rims_paper(2, DISK, GROW)[0], is_rims_paper(2, DISK, GROW, ("moved", 1, 0)),
                 is_rims_paper(2, HANDLE, PLAIN, ("kept", 1, (0,)))]
        self.assertEqual(found, [("kept", -1, (0,)), "moved", True, True])
        self.assertTrue(twisted(2, HANDLE, ((1, 1), (2, -1))) == twist(2, HANDLE, 1) * twist(2, HANDLE, 2).undone())
        with self.assertRaises(InvalidOrder):
            rims(2, (1, 2, -1))


class DeskExamples(unittest.TestCase):
    def test_desk(self):
        desk = Desk(2)
        desk.do(("put", "x", GROW), ("same", "y", "x"), ("turned", "y", (1,)))
        found = [desk["y"].images, len(desk), desk.past, desk.is_true(("alike", "x", "y")), str(desk)]
        self.assertEqual(found, [((1, 1, 2, -1), (1,)), 2, 1, True, "desk of 2 letters: 2 turners, 0 sayings"])
        found = [desk.say(("alike", "x", "y")), desk.say(("table", "x", ((1, 1), (1, 0)))), desk.past]
        self.assertEqual(found, [None, None, 3])
        with self.assertRaises(Refused) as caught:
            desk.do(("move", "x", ("swap", 1, 2)))
        self.assertEqual(caught.exception.reason, ("broken", ("alike", "x", "y")))
        with self.assertRaises(Refused) as caught:
            desk.do(("behind", "z", "x", "x"), ("behind", "z", "z", "z"), ("behind", "z", "z", "z"))
        self.assertEqual(caught.exception.reason, ("long", 2))


class TextExamples(unittest.TestCase):
    def test_texts(self):
        found = [write_word(2, (1, -2)), read_word(2, "1"), write_turner(GROW), write_web(HALF.web), write_stand(HALF)]
        self.assertEqual(found, ["aB", (), "turner ab a", "web 0>1 0>0 1>0", "stand 0>1:a:1.3 0>0:b:1.3 1>0:1:2"])
        found = [read_turner(" turner  ab a ") == GROW, read("web 0>1 0>0 1>0") == HALF.web, read_stand(write_stand(ROSE)) == ROSE]
        self.assertEqual(found, [True, True, True])
        with self.assertRaises(ParseError) as caught:
            read_turner("turner ab aA")
        self.assertEqual(caught.exception.spot, 10)
        with self.assertRaises(ParseError) as caught:
            read_word(1, "ab")
        self.assertEqual(caught.exception.spot, 1)
