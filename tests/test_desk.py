"""Promises [20.1] to [20.3]: a desk of turners with names and sayings, held against the test's own record."""

import unittest

import brute
import drawn
from noroadback.desk import desk as module
from noroadback.desk.desk import Desk
from noroadback.errors import InvalidNumber, InvalidOperation, NothingToUndo, Refused, TooMany, UnknownName
from noroadback.turns.alike import alike_word, turned_by, turner_order
from noroadback.turns.turners import Turner, table_of
from wrong import HUGE, LETTERS, STRANGE, WRONG_INTEGERS, WRONG_MOVES, WRONG_TURNERS, WRONG_WORDS, WrongInputs, integers_but

GROW, PLAIN = Turner(((1, 2), (1,))), Turner(((1,), (2, 1)))
WRONG_NAMES = [value for value in STRANGE if value != "abc"] + [
    "", "abcdefghi", "A", "aB", "a1", "a b", " a", "a_", "x\n", "\u00e4", 0, 1, ("a",), ["a"], b"a",
]
NAMES = ("a", "b", "c", "long", "abcdefgh")


class Record:
    """The test's own desk: names to images, sayings, and what was there ahead of each move."""

    def __init__(self, letters):
        self.letters, self.kept, self.sayings, self.before = letters, {}, [], []

    def made(self, kept, deed):
        """What a deed makes of the images, None for "take"; a Refused word if it is too long."""
        sort, last = deed[0], deed[-1]
        if sort == "take":
            return None
        if sort == "put":
            images = last.images
        elif sort == "same":
            images = kept[last]
        elif sort == "behind":
            images = brute.behind(kept[deed[2]], kept[last])
        elif sort == "undone":
            images = Turner(kept[deed[1]]).undone().images
        elif sort == "move":
            images = brute.behind(kept[deed[1]], brute.move_images(self.letters, last))
        elif sort == "turned":
            images = tuple(brute.turned(image, last) for image in kept[deed[1]])
        else:
            try:
                undone = Turner(kept[last]).undone().images
            except TooMany:
                return "long"
            images = brute.behind(brute.behind(kept[last], kept[deed[1]]), undone)
        return "long" if brute.length(images) > 60 else images

    def do(self, deeds):
        """The error of deeds, as a pair, None if they are done."""
        kept = dict(self.kept)
        for index, deed in enumerate(deeds):
            names = {"put": (), "same": deed[2:], "behind": deed[2:], "led": deed[1:]}.get(deed[0], deed[1:2])
            for name in names:
                if name not in kept:
                    return UnknownName, name
            images = self.made(kept, deed)
            if images == "long":
                return Refused, ("long", index)
            if images is None:
                del kept[deed[1]]
            else:
                kept[deed[1]] = images
        for saying in self.sayings:
            if not all(name in kept for name in self.names(saying)):
                return Refused, ("taken", saying)
        for saying in self.sayings:
            if not self.holds(kept, saying):
                return Refused, ("broken", saying)
        self.move(kept, list(self.sayings))
        return None

    def names(self, saying):
        """The names in a saying."""
        return [saying[1]] + ([saying[2]] if saying[0] in ("alike", "unlike") else [])

    def holds(self, kept, saying):
        """Whether a saying is true."""
        sort, images, last = saying[0], kept[saying[1]], saying[2]
        if sort == "table":
            return last == tuple(tuple(image.count(letter) - image.count(-letter) for letter in range(1, self.letters + 1)) for image in images)
        if sort == "stays":
            return brute.told(images, last) == last
        if sort == "ring":
            return brute.ring(brute.told(images, last)) == brute.ring(last)
        if sort in ("alike", "unlike"):
            return (alike_word(Turner(images), Turner(kept[last])) is not None) == (sort == "alike")
        if sort == "short":
            return brute.length(images) <= last
        try:
            told = turner_order(Turner(images))
        except TooMany:
            return False
        return told is not None and told[0] == last

    def say(self, saying):
        """The error of a saying, None if it is kept."""
        for name in self.names(saying):
            if name not in self.kept:
                return UnknownName, name
        if saying in self.sayings:
            return None
        if len(self.sayings) == 20:
            return TooMany, 20
        if not self.holds(self.kept, saying):
            return Refused, ("false",)
        self.move(dict(self.kept), self.sayings + [saying])
        return None

    def unsay(self, saying):
        """The error of taking a saying back, None if it was there."""
        if saying not in self.sayings:
            return UnknownName, saying
        self.move(dict(self.kept), [other for other in self.sayings if other != saying])
        return None

    def undo(self, steps):
        """The error of taking moves back, None if there were so many."""
        if steps > len(self.before):
            return NothingToUndo, steps
        self.kept, self.sayings = self.before[-steps]
        del self.before[-steps:]
        return None

    def move(self, kept, sayings):
        """Make a move, if something changed."""
        if (kept, sayings) != (self.kept, self.sayings):
            self.before.append((self.kept, self.sayings))
            self.kept, self.sayings = kept, sayings

    def twin(self):
        """A record of its own with the same."""
        other = Record(self.letters)
        other.kept, other.sayings, other.before = self.kept, self.sayings, list(self.before)
        return other


def drawn_deed(rng, letters):
    """A deed of any sort."""
    one, two, three = (rng.choice(NAMES[:4]) for _ in range(3))
    return rng.choice([
        ("put", one, Turner(drawn.images(rng, letters, rng.randint(0, 4), 12))), ("take", one), ("same", one, two), ("behind", one, two, three),
        ("undone", one), ("move", one, rng.choice(brute.all_moves(letters) or [("turn", 1)])), ("turned", one, drawn.word(rng, letters, 3)),
        ("led", one, two), ("put", two, Turner.idle(letters)),
    ])


def drawn_saying(rng, record):
    """A saying of any sort, often a true one."""
    letters, one, two = record.letters, rng.choice(NAMES[:4]), rng.choice(NAMES[:4])
    images = record.kept.get(one, brute.idle(letters))
    try:
        told = turner_order(Turner(images)) or (2, ())
    except TooMany:
        told = (1, ())
    return rng.choice([
        ("table", one, table_of(Turner(images))), ("table", one, table_of(GROW) if letters == 2 else table_of(Turner.idle(letters))),
        ("stays", one, drawn.word(rng, letters, 1)), ("ring", one, drawn.word(rng, letters, 2)), ("ring", one, (1,)), ("alike", one, two),
        ("unlike", one, two), ("order", one, told[0]), ("order", one, rng.randint(-1, 4)), ("short", one, brute.length(images)),
        ("short", one, brute.length(images) + rng.randint(-1, 30)), ("stays", one, ()),
    ])


class Constants(unittest.TestCase):
    def test_constants(self):
        self.assertEqual([module.MAX_NAME, module.MAX_SAID, module.MAX_LONG], [8, 20, 60])


class Drawn(WrongInputs):
    def assert_same(self, desk, record):
        """The desk shows what the record has."""
        kept = {name: Turner(images) for name, images in sorted(record.kept.items())}
        self.assertEqual([desk.letters, desk.kept, desk.sayings, desk.past], [record.letters, kept, tuple(record.sayings), len(record.before)])
        self.assertEqual([list(desk), list(desk.kept), len(desk)], [sorted(kept), sorted(kept), len(kept)])
        self.assertEqual(str(desk), f"desk of {record.letters} letters: {len(kept)} turners, {len(record.sayings)} sayings")
        for name in NAMES:
            self.assertIs(name in desk, name in kept)
        self.assertTrue(all(desk.is_true(saying) for saying in desk.sayings))

    def assert_call(self, call, told, *given):
        """The call returns None, or raises what is told."""
        if told is None:
            self.assertIsNone(call(*given))
            return
        error, kept = told
        name = {UnknownName: "wanted", Refused: "reason", TooMany: "most", NothingToUndo: "steps"}[error]
        self.assert_raises_with(error, name, kept, call, *given)

    def step(self, rng, desk, record):
        """One drawn call on both; the word of what came of it."""
        sort = rng.choice(["do", "do", "do", "say", "say", "unsay", "undo", "is"])
        if sort == "do":
            given = tuple(drawn_deed(rng, record.letters) for _ in range(rng.choice([1, 1, 1, 2, 3, 0])))
            told = record.do(given)
            self.assert_call(desk.do, told, *given)
            return told[1][0] if told and told[0] is Refused else told and told[0].__name__
        if sort == "undo":
            steps = rng.choice([1, 1, 2, 3])
            told = record.undo(steps)
            self.assert_call(desk.undo, told, *([steps] if steps > 1 or rng.random() < 0.5 else []))
            return told and told[0].__name__
        saying = rng.choice(record.sayings) if record.sayings and rng.random() < 0.3 else drawn_saying(rng, record)
        if sort == "is":
            named = all(name in record.kept for name in record.names(saying))
            self.assertIs(desk.is_true(saying), named and record.holds(record.kept, saying))
            return None
        told = record.say(saying) if sort == "say" else record.unsay(saying)
        self.assert_call(desk.say if sort == "say" else desk.unsay, told, saying)
        return told[1][0] if told and told[0] is Refused else told and told[0].__name__

    def test_drawn_calls(self):
        rng, found = drawn.dice(1), {}
        for number in range(60):
            letters = (2, 2, 2, 1, 3, 4, 5)[number % 7]
            desk, record = Desk(letters), Record(letters)
            for _ in range(60):
                word = self.step(rng, desk, record)
                found[word] = found.get(word, 0) + 1
                self.assert_same(desk, record)
        self.assertTrue(set(found) >= {None, "long", "taken", "broken", "false", "UnknownName", "NothingToUndo"}, found)

    def test_twins_go_their_own_way(self):
        rng = drawn.dice(2)
        for _ in range(20):
            desk, record = Desk(2), Record(2)
            for _ in range(20):
                self.step(rng, desk, record)
            twin, other = desk.twin(), record.twin()
            self.assertTrue(twin == desk and not twin != desk)
            for _ in range(20):
                self.step(rng, *rng.choice([(desk, record), (twin, other)]))
                self.assert_same(desk, record)
                self.assert_same(twin, other)
                same = (record.kept, record.sayings) == (other.kept, other.sayings)
                self.assertEqual([desk == twin, twin == desk, desk != twin], [same, same, not same])

    def test_a_move_and_undo_change_nothing(self):
        rng = drawn.dice(3)
        for _ in range(60):
            desk, record = Desk(2), Record(2)
            for _ in range(10):
                self.step(rng, desk, record)
            before, past = desk.twin(), desk.past
            self.step(rng, desk, record)
            if desk.past == past + 1:
                desk.undo()
                self.assertTrue(desk == before and desk.past == past)


class Deeds(WrongInputs):
    def desk(self):
        """A desk with three turners."""
        desk = Desk(2)
        desk.do(("put", "x", GROW), ("put", "y", PLAIN), ("put", "z", Turner.idle(2)))
        return desk

    def refused(self, desk, reason, *deeds):
        """The deeds are refused, and change nothing."""
        before, past = desk.twin(), desk.past
        self.assert_raises_with(Refused, "reason", reason, desk.do, *deeds)
        self.assertTrue(desk == before and desk.past == past)

    def test_what_deeds_make(self):
        desk = self.desk()
        for deed, name, told in [
            (("same", "new", "x"), "new", GROW), (("behind", "new", "x", "y"), "new", GROW * PLAIN), (("behind", "x", "x", "x"), "x", GROW * GROW),
            (("undone", "x"), "x", GROW.undone()), (("move", "x", ("ahead", 1, -2)), "x", GROW * Turner.of_move(2, ("ahead", 1, -2))),
            (("turned", "x", (2, 1)), "x", turned_by(2, (2, 1)) * GROW), (("led", "y", "x"), "y", GROW * PLAIN * GROW.undone()),
            (("led", "x", "x"), "x", GROW), (("put", "abcdefgh", PLAIN), "abcdefgh", PLAIN),
        ]:
            twin = desk.twin()
            twin.do(deed)
            self.assertEqual(twin[name], told)
            self.assertEqual(twin.past, 1 if twin == desk else 2)
        desk.do(("take", "x"))
        self.assertEqual([list(desk), "x" in desk], [["y", "z"], False])

    def test_nothing_changed_is_no_move(self):
        desk = self.desk()
        desk.do()
        desk.do(("put", "x", Turner(GROW.images)))
        desk.do(("undone", "x"), ("undone", "x"))
        desk.do(("turned", "y", ()), ("move", "y", ("turn", 1)), ("move", "y", ("turn", 1)), ("same", "new", "x"), ("take", "new"))
        self.assertEqual([desk.past, len(desk)], [1, 3])

    def test_lengths_of_60_and_61(self):
        desk = Desk(2)
        sixty = Turner(((1,), (2,) + (1,) * 58))
        desk.do(("put", "x", sixty))
        self.assertEqual(desk["x"].length, 60)
        self.refused(desk, ("long", 0), ("put", "y", Turner(((1,), (2,) + (1,) * 59))))
        self.refused(desk, ("long", 0), ("move", "x", ("behind", 2, 1)))
        self.refused(desk, ("long", 1), ("same", "y", "x"), ("move", "y", ("behind", 1, 2)))
        self.refused(desk, ("long", 2), ("same", "y", "x"), ("take", "y"), ("behind", "y", "x", "x"))
        self.refused(desk, ("long", 0), ("turned", "x", (2,)))
        # A turner that is too long on the way alone is refused, too.
        self.refused(desk, ("long", 0), ("move", "x", ("behind", 2, 1)), ("move", "x", ("behind", 2, -1)))
        desk.do(("put", "y", GROW))
        desk.do(*[("behind", "y", "y", "y")] * 2)
        self.assertEqual(desk["y"], GROW.power(4))
        self.refused(desk, ("long", 0), ("behind", "z", "x", "y"))

    def test_long_undoing_turners(self):
        desk = Desk(5)
        one = Turner(((1,),) + tuple((letter,) + (letter - 1,) * 14 for letter in (2, 3, 4)) + ((5,) + (4,) * 13,))
        self.assertEqual(one.length, 60)
        with self.assertRaises(TooMany):
            one.undone()
        desk.do(("put", "one", one), ("put", "idle", Turner.idle(5)))
        self.refused(desk, ("long", 0), ("undone", "one"))
        # The product is idle, and yet the deed is refused.
        self.refused(desk, ("long", 1), ("same", "other", "idle"), ("led", "idle", "one"))

    def test_names_that_stand_for_nothing(self):
        desk = self.desk()
        for deeds, name in [
            ([("take", "q")], "q"), ([("same", "x", "q")], "q"), ([("behind", "x", "q", "r")], "q"), ([("behind", "x", "x", "r")], "r"), ([("undone", "q")], "q"),
            ([("move", "q", ("turn", 1))], "q"), ([("turned", "q", ())], "q"), ([("led", "q", "r")], "q"), ([("led", "x", "r")], "r"),
            ([("take", "x"), ("undone", "x")], "x"), ([("take", "x"), ("same", "y", "x"), ("undone", "q")], "x"), ([("behind", "q", "q", "x")], "q"),
        ]:
            before = desk.twin()
            self.assert_raises_with(UnknownName, "wanted", name, desk.do, *deeds)
            self.assertTrue(desk == before)
        desk.do(("put", "q", GROW), ("undone", "q"))
        self.assertEqual(desk["q"], GROW.undone())

    def test_the_first_of_several_errors(self):
        desk = self.desk()
        desk.say(("alike", "x", "x"))
        long = ("put", "x", Turner(((1,), (2,) + (1,) * 59)))
        for deeds, error, name, kept in [
            ([("take", "q"), ("bad",)], InvalidOperation, None, None), ([long, None], InvalidOperation, None, None),
            ([long, ("take", "q")], Refused, "reason", ("long", 0)), ([("take", "q"), long], UnknownName, "wanted", "q"),
            ([("take", "x"), ("take", "q")], UnknownName, "wanted", "q"), ([("take", "x"), long[:1] + ("y",) + long[2:]], Refused, "reason", ("long", 1)),
            ([("take", "x")], Refused, "reason", ("taken", ("alike", "x", "x"))),
        ]:
            self.assert_raises_with(error, name, kept, desk.do, *deeds)

    def test_sayings_whose_name_is_taken_or_broken_behind_the_last_deed(self):
        desk = self.desk()
        desk.say(("short", "z", 2))
        desk.say(("unlike", "x", "y"))
        self.refused(desk, ("broken", ("short", "z", 2)), ("same", "z", "x"))
        self.refused(desk, ("broken", ("unlike", "x", "y")), ("same", "x", "y"))
        # A name that is taken comes ahead of a saying that is broken.
        self.refused(desk, ("taken", ("unlike", "x", "y")), ("same", "z", "x"), ("take", "y"))
        self.refused(desk, ("broken", ("short", "z", 2)), ("same", "z", "x"), ("same", "x", "y"))
        self.refused(desk, ("taken", ("short", "z", 2)), ("take", "z"), ("take", "x"))
        desk.do(("take", "x"), ("same", "x", "z"), ("same", "z", "y"), ("same", "z", "x"))
        self.assertEqual([desk["x"], desk.sayings], [Turner.idle(2), (("short", "z", 2), ("unlike", "x", "y"))])

    def test_sayings_that_no_deed_of_a_sort_breaks(self):
        rng = drawn.dice(4)
        for number in range(150):
            letters = 1 + number % 3
            desk, record = Desk(letters), Record(letters)
            for name in ("a", "b"):
                deed = ("put", name, Turner(drawn.images(rng, letters, rng.randint(0, 3), 5)))
                desk.do(deed)
                record.do([deed])
            saying = drawn_saying(rng, record)
            if record.say(saying) is not None:
                continue
            desk.say(saying)
            for deed in [("turned", "a", drawn.word(rng, letters, 2)), ("undone", "a"), ("led", "a", "b")]:
                try:
                    desk.do(deed)
                except Refused as error:
                    if error.reason[0] == "broken":
                        right = {"turned": ("table", "ring", "alike", "unlike", "order"), "undone": ("stays", "ring", "order"), "led": ("order",)}
                        self.assertNotIn(saying[0], right[deed[0]])

    def test_wrong_deeds(self):
        desk = self.desk()
        words = [value for value in WRONG_WORDS if value != (1,)]
        wrong = STRANGE + [(), ("put",), ("put", "x"), ("put", "x", GROW, 1), ["put", "x", GROW], ("Put", "x", GROW), ("take",), ("take", "x", "y"),
                           ("same", "x"), ("behind", "x", "y"), ("undone", "x", "y"), ("move", "x"), ("turned", "x"), ("led", "x"), ("say", "x", ()),
                           ("put", "x", Turner.idle(3)), ("put", "x", GROW.images), (("take", "x"),), (None, "x"), (1, "x"), ("x", "take"), (["take"], "x")]
        wrong += [("take", name) for name in WRONG_NAMES] + [("same", "x", name) for name in WRONG_NAMES] + [("behind", name, "x", "y") for name in WRONG_NAMES]
        wrong += [("put", "x", value) for value in WRONG_TURNERS] + [("turned", "x", value) for value in words]
        wrong += [("move", "x", value) for value in WRONG_MOVES] + [("led", name, "x") for name in WRONG_NAMES] + [("put", name, GROW) for name in WRONG_NAMES]
        for deed in wrong:
            with self.subTest(deed=repr(deed)[:80]):
                self.assert_raises_with(InvalidOperation, None, None, desk.do, deed)
                self.assert_raises_with(InvalidOperation, None, None, desk.do, ("take", "q"), deed)
        self.assertEqual(desk.past, 1)

    def test_puts_of_long_returned_turners(self):
        desk = Desk(2)
        self.refused(desk, ("long", 0), ("put", "x", GROW.power(20)))
        desk.do(("put", "x", GROW.power(7)))
        self.assertEqual(desk["x"], GROW.power(7))


class Sayings(WrongInputs):
    def desk(self):
        """A desk with some turners."""
        desk = Desk(2)
        desk.do(("put", "x", GROW), ("put", "y", turned_by(2, (1,)) * GROW), ("put", "p", PLAIN), ("put", "r", Turner(((2,), (-2, -1)))))
        return desk

    def test_true_and_false_ones(self):
        desk = self.desk()
        for saying, told in [
            (("table", "x", ((1, 1), (1, 0))), True), (("table", "x", ((1, 1), (0, 1))), False), (("stays", "p", (2, 1, -2)), True),
            (("stays", "p", (2,)), False), (("ring", "p", (2, 1, -2)), True), (("ring", "x", (1, 2, -1, -2)), False), (("ring", "y", ()), True),
            (("alike", "x", "y"), True), (("alike", "x", "p"), False), (("unlike", "x", "p"), True), (("unlike", "y", "x"), False),
            (("order", "r", 3), True), (("order", "r", 6), False), (("order", "x", 1), False), (("short", "x", 3), True), (("short", "x", 2), False),
            (("short", "x", -5), False), (("short", "x", 10 ** 60 - 1), True), (("short", "x", 10 ** 60), False), (("order", "r", 10 ** 60), False),
        ]:
            self.assertIs(desk.is_true(saying), told)
            if told:
                twin = desk.twin()
                twin.say(saying)
                self.assertEqual([twin.sayings, twin.past], [(saying,), 2])
            elif 10 ** 60 in saying:
                self.assert_raises_with(InvalidOperation, None, None, desk.say, saying)
            else:
                self.assert_raises_with(Refused, "reason", ("false",), desk.say, saying)
        self.assertEqual([desk.sayings, desk.past], [(), 1])

    def test_orders_that_are_too_hard_to_tell_are_false(self):
        desk = Desk(2)
        bent = Turner(((2,), (-2, -1)))
        by = Turner(((1,) * 5 + (2,), (1,)))
        desk.do(("put", "x", bent), ("put", "by", by))
        desk.say(("order", "x", 3))
        done = 0
        for _ in range(6):
            try:
                desk.do(("led", "x", "by"))
                self.assertEqual(turner_order(desk["x"])[0], 3)
            except Refused as error:
                done += 1
                if error.reason[0] == "broken":
                    twin = desk.twin()
                    twin.unsay(("order", "x", 3))
                    twin.do(("led", "x", "by"))
                    with self.assertRaises(TooMany):
                        turner_order(twin["x"])
        self.assertGreater(done, 0)

    def test_twenty_sayings_and_one_more(self):
        desk = self.desk()
        sayings = [("short", "x", number) for number in range(3, 23)]
        for saying in sayings:
            desk.say(saying)
        self.assertEqual([desk.sayings, desk.past], [tuple(sayings), 21])
        self.assert_raises_with(TooMany, "most", 20, desk.say, ("short", "x", 23))
        self.assert_raises_with(TooMany, "most", 20, desk.say, ("short", "x", 2))
        self.assert_raises_with(UnknownName, "wanted", "q", desk.say, ("short", "q", 2))
        self.assert_raises_with(InvalidOperation, None, None, desk.say, ("short", "q", None))
        # One that is kept already is not kept twice.
        desk.say(("short", "x", 5))
        self.assertEqual([len(desk.sayings), desk.past], [20, 21])
        desk.unsay(("short", "x", 5))
        desk.say(("short", "x", 23))
        self.assertEqual([desk.sayings[-1], len(desk.sayings), desk.past], [("short", "x", 23), 20, 23])

    def test_unknown_names(self):
        desk = self.desk()
        for saying, name in [(("alike", "q", "z"), "q"), (("alike", "x", "z"), "z"), (("table", "q", ((1, 0), (0, 1))), "q"), (("order", "q", 1), "q")]:
            self.assert_raises_with(UnknownName, "wanted", name, desk.say, saying)
            self.assertIs(desk.is_true(saying), False)

    def test_wrong_sayings(self):
        desk = self.desk()
        desk.say(("short", "x", 3))
        desk.say(("order", "r", 3))
        table = ((1, 1), (1, 0))
        wrong = STRANGE + [(), ("short",), ("short", "x"), ("short", "x", 3, 3), ["short", "x", 3], ("Short", "x", 3), ("table", "x", ((1,),)),
                           ("table", "x", ((True, 1), (1, 0))), ("table", "x", [[1, 1], [1, 0]]), ("table", "x", ((1, 1), [1, 0])), ("alike", "x"),
                           ("table", "x", ((1, 1), (1, 10 ** 60))), ("table", "x", table + ((0, 0),)), ("alike", "x", "y", "p"), (None, "x", 3), ("x", "short", 3)]
        wrong += [("short", name, 3) for name in WRONG_NAMES] + [("alike", "x", name) for name in WRONG_NAMES] + [("stays", "x", word) for word in WRONG_WORDS
                                                                                                     if word != (1,)]
        wrong += [("short", "x", value) for value in WRONG_INTEGERS + [HUGE, 10 ** 60]] + [("ring", "x", word) for word in WRONG_WORDS if word != (1,)]
        wrong += [("order", "r", value) for value in WRONG_INTEGERS + [HUGE]] + [("table", "x", value) for value in STRANGE]
        for saying in wrong:
            with self.subTest(saying=repr(saying)[:80]):
                self.assert_raises_with(InvalidOperation, None, None, desk.say, saying)
                self.assertIs(desk.is_true(saying), False)
                self.assert_raises_with(UnknownName, "wanted", saying, desk.unsay, saying)
        self.assertEqual(desk.past, 3)

    def test_unsaying(self):
        desk = self.desk()
        for number in (3, 4, 5):
            desk.say(("short", "x", number))
        desk.unsay(("short", "x", 4))
        self.assertEqual([desk.sayings, desk.past], [(("short", "x", 3), ("short", "x", 5)), 5])
        for value in (("short", "x", 4), ("short", "x", 6), ("short", "q", 3)):
            self.assert_raises_with(UnknownName, "wanted", value, desk.unsay, value)
        desk.undo()
        self.assertEqual(desk.sayings, (("short", "x", 3), ("short", "x", 4), ("short", "x", 5)))

    def test_true_in_the_place_of_1(self):
        desk = Desk(1)
        desk.do(("put", "x", Turner.idle(1)))
        for saying, other in [(("order", "x", 1), ("order", "x", True)), (("table", "x", ((1,),)), ("table", "x", ((True,),))),
                              (("stays", "x", (1,)), ("stays", "x", (True,)))]:
            desk.say(saying)
            self.assertIs(desk.is_true(other), False)
            self.assert_raises_with(InvalidOperation, None, None, desk.say, other)
            self.assert_raises_with(UnknownName, "wanted", other, desk.unsay, other)
        self.assertEqual(len(desk.sayings), 3)


class Desks(WrongInputs):
    def test_steps_0_1_and_more_than_there_are(self):
        desk = Desk(2)
        self.assert_raises_with(NothingToUndo, "steps", 1, desk.undo)
        for turner in (GROW, PLAIN, GROW * PLAIN):
            desk.do(("put", "x", turner))
        for steps in (0, -1, 10 ** 60):
            self.assert_raises_with(InvalidNumber, "given", steps, desk.undo, steps)
        for steps in (4, 10 ** 60 - 1):
            self.assert_raises_with(NothingToUndo, "steps", steps, desk.undo, steps)
        self.assertEqual([desk.undo(), desk["x"], desk.past], [None, PLAIN, 2])
        desk.undo(steps=2)
        self.assertEqual([len(desk), desk.past, list(desk)], [0, 0, []])

    def test_names_and_turners(self):
        desk = Desk(2)
        desk.do(("put", "b", GROW), ("put", "a", PLAIN), ("put", "abcdefgh", GROW))
        self.assertEqual([list(desk), list(desk.kept), len(desk)], [["a", "abcdefgh", "b"]] * 2 + [3])
        for value in STRANGE + WRONG_NAMES + ["c", GROW, 0, desk]:
            self.assertIs(value in desk, False)
            self.assert_raises_with(UnknownName, "wanted", value, lambda at: desk[at], value)
        self.assertEqual([desk["a"], "a" in desk], [PLAIN, True])

    def test_equal_desks(self):
        one, other = Desk(2), Desk(2)
        self.assertTrue(one == other and not one != other)
        one.do(("put", "x", GROW), ("put", "y", PLAIN))
        self.assertFalse(one == other)
        other.do(("put", "y", PLAIN))
        other.do(("put", "x", GROW))
        self.assertTrue(one == other and one.past != other.past)
        for desk, first, second in [(one, 3, 4), (other, 4, 3)]:
            desk.say(("short", "x", first))
            desk.say(("short", "x", second))
        self.assertFalse(one == other)
        for value in STRANGE + [Desk(3), Desk(1), 0, one.kept]:
            self.assertTrue((one == value) is False and (one != value) is True)
        self.assertEqual([Desk(2) == Desk(2), Desk(2) == Desk(3)], [True, False])

    def test_what_is_returned_shares_nothing(self):
        desk = Desk(2)
        desk.do(("put", "x", GROW))
        kept = desk.kept
        kept["y"] = PLAIN
        del kept["x"]
        self.assertEqual(desk.kept, {"x": GROW})
        table = ("table", "x", ((1, 1), (1, 0)))
        desk.say(table)
        self.assertEqual(desk.sayings, (table,))
        names = iter(desk)
        desk.do(("put", "w", PLAIN), ("put", "z", PLAIN))
        self.assertEqual(list(names), ["x"])
        for name in desk:
            desk.do(("put", name + "a", GROW))
        self.assertEqual(list(desk), ["w", "wa", "x", "xa", "z", "za"])

    def test_operands_of_another_kind(self):
        desk = Desk(2)
        for call in (lambda: desk + desk, lambda: desk < desk, lambda: desk * 2, lambda: desk(1)):
            with self.assertRaises(TypeError):
                call()

    def test_wrong_inputs(self):
        self.assert_refuses(Desk, (2,), [LETTERS])
        desk = Desk(2)
        desk.do(("put", "x", GROW))
        self.assert_refuses(desk.undo, (1,), [(InvalidNumber, "given", integers_but(1, 10 ** 60 - 1))])
        self.assertEqual(str(desk), "desk of 2 letters: 1 turners, 0 sayings")
        self.assertEqual([Desk(5).letters, Desk(1).kept, Desk(1).sayings, Desk(1).past], [5, {}, (), 0])
