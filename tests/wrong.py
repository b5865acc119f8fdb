"""Wrong inputs, and a test case that tries them at the parameters of functions."""

import unittest

from noroadback.desk.desk import Desk
from noroadback.errors import InvalidNumber, InvalidOperation, InvalidRoad, InvalidStand, InvalidTurner, InvalidWeb, InvalidWord
from noroadback.turns.slopes import Sum
from noroadback.turns.turners import Turner
from noroadback.webs.stands import Stand
from noroadback.webs.webs import Web


def nested(depth):
    """A tuple within a tuple, so many deep."""
    value = (1,)
    for _ in range(depth - 1):
        value = (value,)
    return value


HUGE = 10 ** 99
STRANGE = [
    None, True, False, "", "1", "abc", "\t\n", "x" * 4000, [], [1], {}, {1: 1}, {(1,): 2}, ((),), ((1,),), ([1],), (None,),
    (True,), (False,), ("1",), (0,), (HUGE,), (-HUGE,), nested(8), (nested(7), [nested(6)]), [[[[[[[[1]]]]]]]],
    {"a": {"b": {"c": (1, [2])}}}, InvalidWord("no word"), InvalidNumber(3), Turner(((1, 2), (1,))), Sum(2, {(1,): 1}),
    Web(((0, 0), (0, 0), (0, 0))), Stand(((0, 0),) * 3, ((1,), (2,), (3,)), ((2,), (3,), (1,))), Desk(2),
]
# From here on, with two letters.
WRONG_WORDS = STRANGE + [
    0, 1, HUGE, -HUGE, (1, -1), (-2, 2), (1, 2, -2), (3,), (-3,), (1, 0), (1, True), (1, None), (1, "2"), (1, (2,)),
    (1, [2]), [1, 2], "12", (1,) * 201, (1, 2) * 100 + (1,),
]
WRONG_LOTS = [value for value in STRANGE if value not in (((),), ((1,),))] + [
    1, (1, 2), [(1,)], [], ((1,), [2]), ((1,), None), ((1,), 2), ((1,), True), ((1,), "2"), ((1,), ((2,),)), ((1, True),),
    ((1, -1),), ((1,), (2, -2)), ((3,),), ((1,), (0,)), ((1,), (-3,)), ((1,),) * 7, ((),) * 7, ((1,) * 201,),
    ((2,), (1, 2) * 100 + (1,)), ((HUGE,),), ((10 ** 60,),),
]
WRONG_INTEGERS = STRANGE + [(), (1,), (1, 2)]
WRONG_MOVES = STRANGE + [
    (), ("turn",), ("turn", 0), ("turn", 3), ("turn", -1), ("turn", True), ("turn", 1, 2), ["turn", 1], ("Turn", 1), ("turn", "1"),
    ("turn", None), ("turn", HUGE), ("swap", 1), ("swap", 2, 1), ("swap", 1, 1), ("swap", 1, -2), ("swap", 1, 3), ("swap", 0, 1),
    ("swap", True, 2), ("swap", 1, 2, 1), ("swap", 1, "2"), ("swap", 1, 10 ** 60), ("behind", 1), ("behind", 1, 1),
    ("behind", 1, -1), ("behind", 2, 2), ("behind", 1, 0), ("behind", 1, 3), ("behind", 1, -3), ("behind", -1, 2),
    ("behind", 2, True), ("behind", 1, 2, 2), ("behind", 3, 1), ("ahead", 1, 1), ("ahead", 1, -1), ("ahead", 0, 1),
    ("ahead", 1, (2,)), ("ahead", (1,), 2), ("ahead", 1, None), ["ahead", 1, 2], (1, 2, "ahead"), ("behind", 1, HUGE), "turn",
    ("idle",), ("idle", 1), ("idle", 1, 2), (("turn", 1),), (None, 1, 2),
]
WRONG_TURNERS = [value for value in STRANGE if not isinstance(value, Turner)] + [0, 1, HUGE, ((1, 2), (1,)), (1,), ()]
WRONG_WEBS = [value for value in STRANGE if not isinstance(value, Web)] + [0, 1, HUGE, (), ((0, 0),), ((0, 1), (0, 1))]
WRONG_STANDS = [value for value in STRANGE if not isinstance(value, Stand)] + [
    0, 1, HUGE, (), (((0, 0),), ((1,),), ((1,),)), ((1, 2), (1,)),
]
# From here on, of a web of at most six ties.
WRONG_ROADS = STRANGE + [
    0, 1, HUGE, (7,), (-7,), (1, 0), (1, True), (1, None), (1, "2"), (1, (1,)), (1, [1]), [1], "1", (HUGE, 1), (10 ** 60,),
]
WRONG_TIES = STRANGE + [
    0, 1, HUGE, (7,), (1, 7), (-1,), (1, 1), (2, 1), (1, 2, 2), (1, True), (True, 2), (1, None), (1, "2"), (1, (2,)), [1, 2], "12",
    (1, HUGE), (0, 1), (-2, 1),
]


def integers_but(least, most):
    """Values that are no integers from the least to the most one."""
    return WRONG_INTEGERS + [least - 1, most + 1, -HUGE, HUGE, 10 ** 60, -10 ** 60]


def directed_but(size):
    """Values that are no directed ties of so many ties."""
    return WRONG_INTEGERS + [0, size + 1, -size - 1, HUGE, -HUGE, 10 ** 60]


class WrongInputs(unittest.TestCase):
    """Tries wrong values at the parameters of a function, alone and two at once."""

    def assert_raises_with(self, error, name, kept, call, *given):
        """The call raises an error of just this class, and the error keeps the very value."""
        with self.assertRaises(error) as caught:
            call(*given)
        self.assertIs(type(caught.exception), error)
        if name is not None:
            found = getattr(caught.exception, name)
            if type(kept) in (int, tuple):
                self.assertEqual((type(found), repr(found)), (type(kept), repr(kept)))
            else:
                self.assertIs(found, kept)

    def assert_refuses(self, call, right, wrongs):
        """`wrongs` has for each parameter a triple (error, attribute, wrong values), or None."""
        for place, told in enumerate(wrongs):
            if told is None:
                continue
            error, name, values = told
            for value in values:
                given = list(right)
                given[place] = value
                with self.subTest(call=call.__name__, place=place, value=repr(value)[:80]):
                    self.assert_raises_with(error, name, value, call, *given)
                    self.assert_first_refused(call, given, place, wrongs)

    def assert_first_refused(self, call, given, place, wrongs):
        """Of two wrong values the first one is refused, whatever the second one is."""
        error, name, _ = wrongs[place]
        for later in range(place + 1, len(wrongs)):
            if wrongs[later] is None:
                continue
            for value in wrongs[later][2][:3] + wrongs[later][2][-2:]:
                both = list(given)
                both[later] = value
                self.assert_raises_with(error, name, given[place], call, *both)

    def assert_judges_strange(self, call, ahead, right):
        """Values of every kind are judged without an error, all of them false but the right ones."""
        for value in STRANGE + [0, 1, -1, HUGE, (1, -1), ("root",), ("unlike",), ("all",), ("moves",), (1, 2, 3, 4)]:
            if value in right and type(value) is tuple:
                continue
            with self.subTest(call=call.__name__, value=repr(value)[:80]):
                self.assertIs(call(*ahead, value), False)


LETTERS = (InvalidNumber, "given", integers_but(1, 5))
WORD = (InvalidWord, None, WRONG_WORDS)
LOT = (InvalidWord, None, WRONG_LOTS)
WORDS = (InvalidWord, None, WRONG_LOTS + [()])
TURNER = (InvalidTurner, None, WRONG_TURNERS)
WEB = (InvalidWeb, None, WRONG_WEBS)
STAND = (InvalidStand, None, WRONG_STANDS)
ROAD = (InvalidRoad, None, WRONG_ROADS)
TIES = (InvalidOperation, None, WRONG_TIES)
