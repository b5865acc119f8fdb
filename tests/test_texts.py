"""Promises [20.4] and [20.5]: texts of words, turners, webs and stands, written and read."""

import re
from itertools import product

import drawn
from noroadback.errors import InvalidStand, InvalidTurner, InvalidWeb, InvalidWord, ParseError, Refused, TooMany
from noroadback.text import texts as module
from noroadback.text.texts import read, read_stand, read_turner, read_web, read_word, write_stand, write_turner, write_web, write_word
from noroadback.turns.turners import Turner
from noroadback.webs.stands import Stand, rose_stand, stand_power
from noroadback.webs.webs import Web
from wrong import LETTERS, STAND, STRANGE, TURNER, WEB, WORD, WrongInputs

GROW = Turner(((1, 2), (1,)))
ROSE = rose_stand(GROW)
HALF = Stand(((0, 1), (0, 0), (1, 0)), ((1,), (2,), ()), ((1, 3), (1, 3), (2,)))
SIGNS = {**dict(zip("abcde", range(1, 6))), **dict(zip("ABCDE", range(-1, -6, -1)))}
POINT, TIE = r"(?:0|[1-9][0-9]?)", r"-?[1-9][0-9]?"
PAIR, ROAD = rf"{POINT}>{POINT}", rf"{TIE}(?:\.{TIE})*"
READERS = {"turner": read_turner, "web": read_web, "stand": read_stand}
NO_TEXT = [value for value in STRANGE if not isinstance(value, str)] + [0, 1, b"turner a", ("turner a",), "a" * 20001, " " * 20001]


def is_word_text(text, letters=5):
    """Whether a text tells a word."""
    signs = "abcde"[:letters] + "ABCDE"[:letters]
    right = re.fullmatch(f"1|[{signs}]+", text) is not None
    return right and not any(one != other and one.lower() == other.lower() for one, other in zip(text, text[1:]))


def is_piece(head, text):
    """Whether a text is a piece that can stand behind the first one."""
    if head == "turner":
        return is_word_text(text)
    if head == "web":
        return re.fullmatch(PAIR, text) is not None
    found = re.fullmatch(rf"{PAIR}:([^:]*):{ROAD}", text)
    return found is not None and is_word_text(found.group(1))


def wrong_place(text, heads):
    """The index at which a text cannot be read on, None if it can be read."""
    found = [(match.start(), match.group()) for match in re.finditer("[^ ]+", text)]
    for number, (index, piece) in enumerate(found):
        if piece not in heads if number == 0 else not is_piece(found[0][1], piece):
            return index
    return len(text) if len(found) < 2 else None


def word_place(letters, text):
    """The index of the first character that cannot stand behind those ahead of it, None if all can."""
    for index in range(len(text)):
        if not is_word_text(text[:index + 1], letters):
            return index
    return len(text) if text == "" else None


def blanks(rng, text):
    """A text with more blanks between its pieces, and at its ends."""
    return " " * rng.randint(0, 3) + (" " * rng.randint(1, 3)).join(text.split()) + " " * rng.randint(0, 3)


def things(seed, many):
    """Drawn turners, webs and stands, with the functions that write and read them."""
    rng = drawn.dice(seed)
    for number in range(many):
        letters = 1 + number % 5
        yield rng, write_turner, read_turner, Turner(drawn.images(rng, letters, rng.randint(0, 10), 12))
        yield rng, write_web, read_web, Web(drawn.ties(rng, rng.randint(1, 6), 12))
        yield rng, write_stand, read_stand, Stand(*drawn.parts(rng, letters, 4)[:3])


class Words(WrongInputs):
    def test_constants(self):
        self.assertEqual(module.MAX_TEXT, 20000)

    def test_drawn_words(self):
        rng = drawn.dice(1)
        for number in range(200):
            letters = 1 + number % 5
            word = drawn.word(rng, letters, rng.choice([3, 200]))
            text = "".join(sign for entry in word for sign in SIGNS if SIGNS[sign] == entry) or "1"
            self.assertEqual([write_word(letters, word), read_word(letters, text)], [text, word])

    def test_texts_with_one_character_spoilt(self):
        rng, found = drawn.dice(2), set()
        for number in range(1500):
            letters = 1 + number % 5
            text = write_word(letters, drawn.word(rng, letters, 6))
            place = rng.randrange(len(text) + 1)
            sign = rng.choice("abcdeABCDE1 f-\t\n0x" if number % 2 else "abcdeABCDE")
            text = text[:place] + rng.choice([sign, "", sign * 2]) + text[place + rng.randint(0, 1):]
            told = word_place(letters, text)
            found.add(told)
            if told is None:
                self.assertTrue(is_word_text(text, letters))
                self.assertEqual(write_word(letters, read_word(letters, text)), text)
            else:
                self.assert_raises_with(ParseError, "spot", told, read_word, letters, text)
        self.assertTrue(found >= {None, 0, 1, 2, 3, 4})

    def test_places(self):
        for letters, text, spot in [(2, "", 0), (2, "aA", 1), (2, "abB", 2), (2, "abBA", 2), (2, "a1", 1), (2, "c", 0), (1, "aab", 2),
                                    (2, "1a", 1), (2, "11", 1), (2, "1A", 1), (2, "1c", 1), (2, "1 ", 1), (2, "1\n", 1), (2, "1aA", 1), (2, "111", 1),
                                    (2, " 1", 0), (2, "x1", 0), (2, "c1", 0), (2, "ab1", 2), (2, "ab1a", 2), (2, "aA1", 1), (2, "a11", 1), (1, "1b", 1),
                                    (2, " a", 0), (2, "a ", 1), (2, "a\t", 1), (2, "\n", 0), (5, "abcdef", 5), (5, "ABCDEF", 5), (2, "x", 0), (2, "-1", 0)]:
            self.assert_raises_with(ParseError, "spot", spot, read_word, letters, text)
        self.assertEqual([read_word(1, "1"), write_word(3, ()), read_word(5, "EDCBAe")], [(), "1", (-5, -4, -3, -2, -1, 5)])

    def test_all_texts_of_up_to_4_characters(self):
        for length in range(5):
            for signs in product("1aAbBc ", repeat=length):
                text = "".join(signs)
                told = word_place(2, text)
                if told is None:
                    self.assertEqual(write_word(2, read_word(2, text)), text)
                else:
                    self.assert_raises_with(ParseError, "spot", told, read_word, 2, text)

    def test_texts_of_20000_characters_and_more(self):
        self.assertEqual(read_word(2, "a" * 20000), (1,) * 20000)
        self.assert_raises_with(ParseError, "spot", None, read_word, 2, "a" * 20001)
        self.assert_raises_with(ParseError, "spot", 19999, read_word, 2, "a" * 19999 + "A")
        self.assert_raises_with(ParseError, "spot", 19999, read_word, 2, "a" * 19999 + "1")
        self.assert_raises_with(ParseError, "spot", 1, read_word, 2, "1" * 20000)
        self.assert_raises_with(ParseError, "spot", None, read_word, 2, "1" * 20001)

    def test_wrong_inputs(self):
        self.assert_refuses(write_word, (2, (1, -2)), [LETTERS, WORD])
        self.assert_raises_with(InvalidWord, None, None, write_word, 2, (1,) * 201)
        for value in NO_TEXT:
            self.assert_raises_with(ParseError, "spot", None, read_word, 2, value)
        self.assert_refuses(read_word, (2, "ab"), [LETTERS, None])


class Things(WrongInputs):
    def test_what_is_written_is_read(self):
        for rng, write, reader, thing in things(3, 60):
            text = write(thing)
            self.assertEqual(reader(text), thing)
            self.assertEqual(read(text), thing)
            spaced = blanks(rng, text)
            self.assertTrue(reader(spaced) == thing and read(spaced) == thing)
            self.assertEqual(write(reader(spaced)), " ".join(text.split()))
            self.assertEqual(text, text.strip())
            self.assertNotIn("  ", text)
            self.assertIsNone(wrong_place(text, [text.split()[0]]))

    def test_texts_of_other_things(self):
        for rng, write, reader, thing in things(4, 10):
            for other in READERS.values():
                if other is not reader:
                    self.assert_raises_with(ParseError, "spot", 2, other, "  " + write(thing))

    def test_texts_with_one_piece_or_one_character_spoilt(self):
        found = set()
        for rng, write, reader, thing in things(5, 250):
            text = blanks(rng, write(thing))
            place = rng.randrange(len(text))
            sign = rng.choice([" ", "", "1", "0", "-", ".", ":", ">", "a", "A", "f", "\t", "\n", "00", "99", "100", "01", "-0", "turner", "web", "stand"])
            text = text[:place] + sign + text[place + rng.randint(0, 1):]
            told = wrong_place(text, [write(thing).split()[0]])
            found.add((reader.__name__, told is None))
            self.assert_read(text, reader, told)
            self.assert_read(text, read, wrong_place(text, list(READERS)))
        self.assertEqual(found, {(name, told) for name in ("read_turner", "read_web", "read_stand") for told in (True, False)})

    def assert_read(self, text, reader, told):
        """The text is read, or is refused by the class, or cannot be read at a place."""
        if told is not None:
            self.assert_raises_with(ParseError, "spot", told, reader, text)
            return
        try:
            thing = reader(text)
        except (InvalidTurner, InvalidWeb, InvalidStand, Refused):
            return
        write = {Turner: write_turner, Web: write_web, Stand: write_stand}[type(thing)]
        self.assertEqual(write(thing), " ".join(text.split()))

    def test_places(self):
        for reader, text, spot in [
            (read_turner, "turner", 6), (read_turner, "turner  ", 8), (read_turner, "", 0), (read_turner, "   ", 3), (read, "", 0), (read, "  ", 2),
            (read_turner, "Turner a", 0), (read_turner, " turnera", 1), (read_turner, "turner\ta", 0), (read_turner, "turner a\n", 7), (read, "\nturner a", 0),
            (read_turner, "turner 1a", 7), (read_turner, "turner 11 b", 7), (read_turner, "turner a1", 7), (read_turner, "turner a 1 1a aA", 11),
            (read, "turner 1a", 7), (read, " turner a  11", 11), (read, "stand 0>0:1a:1", 6), (read, "stand 0>0:a:1  0>0:a1:1", 15),
            (read_stand, "stand 0>0:1a:1", 6), (read_stand, "stand 0>0:11:1", 6), (read_stand, "stand 0>0:a:1 0>0:1a:1", 14),
            (read_turner, "turner a f", 9), (read_turner, "turner a 1b", 9), (read_turner, "turner ab aA", 10), (read_turner, "turner x aA", 7),
            (read_web, "web 0>1 00>1", 8), (read_web, "web 0>100", 4), (read_web, "web 0>-1", 4), (read_web, "web 0>", 4), (read_web, "web 0", 4),
            (read_web, "web 0>1>2", 4), (read_web, "web 0>01", 4), (read_web, "web 0 > 1", 4), (read_web, "web -0>1", 4), (read_web, "web +1>0", 4),
            (read_stand, "stand 0>0:a", 6), (read_stand, "stand 0>0:a:", 6), (read_stand, "stand 0>0:a:0", 6), (read_stand, "stand 0>0:a:-0", 6),
            (read_stand, "stand 0>0:a:01", 6), (read_stand, "stand 0>0:a:1.", 6), (read_stand, "stand 0>0:a:.1", 6), (read_stand, "stand 0>0:a:1..1", 6),
            (read_stand, "stand 0>0:a:100", 6), (read_stand, "stand 0>0:a:-100", 6), (read_stand, "stand 0>0:aA:1", 6), (read_stand, "stand 0>0::1", 6),
            (read_stand, "stand 0>0:a:--1", 6), (read_stand, "stand 0>0:a:1:1", 6), (read_stand, "stand 0>0:a:1 0>0:f:1", 14), (read, "stand web 0>0", 6),
            (read, "word ab", 0), (read, "turner web", 7), (read_web, "web turner", 4), (read_stand, "stand 0>0:a:- 1", 6),
        ]:
            with self.subTest(text=text):
                self.assert_raises_with(ParseError, "spot", spot, reader, text)
        self.assertEqual(read_stand("stand 0>0:a:-1").images, ((-1,),))

    def test_numbers_99_and_100(self):
        self.assert_raises_with(InvalidWeb, None, None, read_web, "web 0>99")
        self.assert_raises_with(ParseError, "spot", 4, read_web, "web 0>100")
        self.assert_raises_with(InvalidStand, None, None, read_stand, "stand 0>0:a:99")
        self.assert_raises_with(InvalidStand, None, None, read_stand, "stand 0>0:a:-99")
        self.assert_raises_with(ParseError, "spot", 6, read_stand, "stand 0>0:a:100")

    def test_right_pieces_that_tell_nothing(self):
        for text, error in [("turner a a", InvalidTurner), ("turner aa", InvalidTurner), ("turner 1", InvalidTurner), ("turner a b c d e a", InvalidTurner),
                            ("turner e", InvalidTurner), ("turner " + "a" * 201, InvalidTurner), ("web 1>2", InvalidWeb), ("web 0>0 1>1", InvalidWeb),
                            ("web" + " 0>0" * 25, InvalidWeb), ("stand 0>1:a:1", InvalidStand), ("stand 0>0:b:1", InvalidStand),
                            ("stand 0>0:a:1.-1", InvalidStand), ("stand 0>0:a:2", InvalidStand)]:
            for reader in (read, READERS[text.split()[0]]):
                self.assert_raises_with(error, None, None, reader, text)
        for text, reason in [("stand 0>0:aa:1", ("naming",)), ("stand 0>0:a:1.1", ("short",)), ("stand 0>1:a:1.3 0>0:b:1 1>0:1:2", ("point", 2))]:
            self.assert_raises_with(Refused, "reason", reason, read_stand, text)
            self.assert_raises_with(Refused, "reason", reason, read, text)

    def test_texts_of_20000_characters_and_more(self):
        text = "turner ab a"
        self.assertEqual(read_turner(text + " " * (20000 - len(text))), GROW)
        for value in [text + " " * (20001 - len(text)), "x" * 20001]:
            for reader in (read, read_turner, read_web, read_stand):
                self.assert_raises_with(ParseError, "spot", None, reader, value)
        self.assert_raises_with(ParseError, "spot", 20000, read_turner, "turner" + " " * 19994)
        self.assert_raises_with(ParseError, "spot", 19999, read_turner, "turner" + " " * 13 + "a " * 9990 + "x")

    def test_written_texts_that_are_too_long(self):
        power = GROW.power(18)
        self.assertEqual(len(write_turner(power)), 8 + power.length)
        self.assertLess(power.length, 20000)
        self.assert_raises_with(TooMany, "most", 20000, write_turner, GROW.power(20))
        edge = Turner(((1,), (2,) + (1,) * 199)).power(20) * Turner(((1,), (2,)))
        while edge.length < 19800:
            edge = edge * Turner(((1,), (2,) + (1,) * 199))
        behind = Turner(((1,), (2,) + (1,) * (20000 - 8 - edge.length)))
        just = edge * behind
        self.assertEqual([just.length, len(write_turner(just))], [19992, 20000])
        self.assert_raises_with(TooMany, "most", 20000, write_turner, just * Turner(((1,), (2, 1))))
        long = stand_power(ROSE, 12)
        self.assertEqual(read_stand(write_stand(stand_power(ROSE, 8))), stand_power(ROSE, 8))
        self.assertEqual(write_stand(long).count("."), long.length - 2)
        self.assert_raises_with(TooMany, "most", 20000, write_stand, stand_power(rose_stand(GROW.power(10)), 2))

    def test_long_images_are_written_and_are_too_long_to_be_read(self):
        power = GROW.power(14)
        self.assert_raises_with(InvalidTurner, None, None, read_turner, write_turner(power))

    def test_wrong_inputs(self):
        self.assert_refuses(write_turner, (GROW,), [TURNER])
        self.assert_refuses(write_web, (HALF.web,), [WEB])
        self.assert_refuses(write_stand, (HALF,), [STAND])
        for reader in (read, read_turner, read_web, read_stand):
            for value in NO_TEXT:
                self.assert_raises_with(ParseError, "spot", None, reader, value)
            for value in STRANGE:
                if isinstance(value, str):
                    told = wrong_place(value, [name for name, one in READERS.items() if one is reader] or list(READERS))
                    self.assert_raises_with(ParseError, "spot", told, reader, value)
