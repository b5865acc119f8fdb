"""Promises [0.1] to [0.7], where no test of one function alone tells them."""

import inspect
import unittest

from noroadback.base import fractions, lots, rings, words
from noroadback.desk import desk
from noroadback.desk.desk import Desk
from noroadback.errors import InvalidNumber, InvalidOperation, InvalidOrder, InvalidRoad, InvalidStand, InvalidTable, InvalidTurner, InvalidWeb, InvalidWord
from noroadback.rates import gates, tables
from noroadback.rims import rims
from noroadback.search import fates, lost, rows, search, stairs, staying
from noroadback.text import texts
from noroadback.turns import alike, moves, slopes, turners, two
from noroadback.turns.slopes import Sum
from noroadback.turns.turners import Turner
from noroadback.webs import changes, stands, webs
from noroadback.webs.stands import Stand
from noroadback.webs.webs import Web
from wrong import STRANGE

GROW, ONE = Turner(((1, 2), (1,))), Sum.word(2, ())
THETA = Web(((0, 1), (0, 1), (0, 1)))
HALF = Stand(((0, 1), (0, 0), (1, 0)), ((1,), (2,), ()), ((1, 3), (1, 3), (2,)))
PARTED = Stand(((0, 0), (1, 1), (0, 1), (0, 0)), ((1,), (2,), (), (3,)), ((2,), (1,), (-3,), (-3, 4, 3)))
MODULES = (words, fractions, rings, lots, turners, moves, slopes, alike, two, webs, stands, changes, tables, gates, search,
           lost, fates, rows, staying, stairs, rims, desk, texts)
GOLD = ((1, 1), (1, 0))
PARAMETERS = {
    words.is_word: "letters value", words.bare: "letters row", words.product: "letters *words",
    words.contrary: "letters word", words.power: "letters word many", words.root: "letters word",
    words.common_root: "letters one other", words.is_common_root: "letters one other value",
    words.words_of: "letters length", words.word_number: "letters length",
    fractions.fraction: "top bottom", fractions.is_fraction: "value", fractions.compare: "one other",
    fractions.fraction_text: "one",
    rings.core: "letters word", rings.ring: "letters word", rings.is_ring: "letters value",
    rings.turned: "letters word by", rings.are_alike: "letters one other", rings.between: "letters one other",
    rings.is_between: "letters one other value", rings.rings_of: "letters length", rings.ring_number: "letters length",
    lots.all_paper: "letters words", lots.is_all_paper: "letters words value", lots.do_make_all: "letters words",
    lots.way_of: "letters words word", lots.is_way: "letters words word value", lots.lot_rank: "letters words",
    lots.lot_base: "letters words", lots.are_one_lot: "letters one other",
    turners.table_of: "turner", turners.table_product: "one other", turners.table_determinant: "table",
    moves.moves_of: "turner", moves.is_moves_of: "turner value", moves.made_by: "letters moves",
    slopes.slope: "letters word letter", slopes.slope_table: "letters words", slopes.sums_product: "one other",
    slopes.undone_slopes: "letters words", slopes.is_undone_slopes: "letters words value",
    alike.turned_by: "letters word", alike.inner_word: "turner", alike.alike_word: "one other",
    alike.is_alike_word: "one other value", alike.table_order: "table", alike.turner_order: "turner",
    alike.exact_order: "turner",
    two.base_ring: "first second", two.is_base_letter: "value", two.of_table: "table", two.two_kind: "turner",
    two.is_two_kind: "turner value", two.quotient_round: "turner", two.two_alike: "one other",
    two.is_two_alike: "one other value", two.commutator_sign: "turner",
    webs.least_tree: "web", webs.base_rounds: "web", webs.road_between: "web one other", webs.pieces: "web ties",
    webs.is_forest: "web ties", webs.tight_round: "web road", webs.is_naming: "web value", webs.base_naming: "web",
    webs.reading: "web words road",
    stands.stand_fault: "ties words images", stands.turner_of: "stand", stands.is_stand_of: "turner value",
    stands.rose_stand: "turner", stands.led: "stand road", stands.led_point: "stand point", stands.behind: "one other",
    stands.stand_power: "stand many", stands.road_of: "stand word", stands.word_of: "stand road",
    changes.halved: "stand tie place", changes.folded: "stand one other", changes.shrunk: "stand ties",
    changes.pulled: "stand point", changes.joined: "stand point tie",
    tables.counts: "stand", tables.row_led: "table row", tables.weights_led: "table row", tables.hangs_together: "table",
    tables.pieces_of: "table", tables.beat: "table", tables.table_power: "table many", tables.own_poly: "table",
    tables.rate_paper: "table fraction", tables.is_rate_paper: "table fraction value", tables.compare_rates: "one other",
    tables.rate_bounds: "table figures", tables.is_rate_bounds: "table figures value", tables.is_rate: "table fraction",
    gates.first_of: "stand tie", gates.gates: "stand", gates.closed_turns: "stand", gates.turns_taken: "stand",
    gates.is_open: "stand road", gates.back_paper: "stand", gates.is_back_paper: "stand value",
    search.grown_set: "stand ties", search.kept_parts: "stand", search.search_paper: "turner",
    search.is_search_paper: "turner value",
    lost.lost_bound: "stand", lost.common_of: "stand one other", lost.most_lost: "stand", lost.is_most_lost: "stand value",
    fates.ring_led: "stand road many", fates.fate: "stand road", fates.is_fate: "stand road value",
    fates.lengths: "stand road many",
    rows.rows_in: "stand tie length", rows.row_numbers: "stand tie most", rows.next_ties: "stand tie road",
    rows.tie_at: "stand tie power place",
    staying.staying_words: "turner length", staying.staying_base: "turner length", staying.staying_rings: "turner length",
    staying.staying_roads: "stand length",
    stairs.piece_turner: "stand ties point", stairs.shrunk_turner: "stand ties", stairs.stair_paper: "turner",
    stairs.is_stair_paper: "turner value",
    rims.is_order: "letters value", rims.rims: "letters order", rims.handle_number: "letters order", rims.twist: "letters order letter",
    rims.twisted: "letters order row", rims.rims_paper: "letters order turner", rims.is_rims_paper: "letters order turner value",
    texts.write_word: "letters word", texts.read_word: "letters text", texts.write_turner: "turner", texts.write_web: "web",
    texts.write_stand: "stand", texts.read_turner: "text", texts.read_web: "text", texts.read_stand: "text", texts.read: "text",
}
METHODS = {
    Turner: {
        "__init__": "self images", "idle": "letters", "of_move": "letters move", "__call__": "self word",
        "__mul__": "self other", "undone": "self", "power": "self many", "__eq__": "self other", "__str__": "self",
    },
    Sum: {
        "__init__": "self letters terms", "word": "letters word", "__add__": "self other", "__sub__": "self other",
        "__mul__": "self other", "total": "self", "led": "self turner", "__eq__": "self other", "__len__": "self",
        "__bool__": "self", "__iter__": "self",
    },
    Web: {
        "__init__": "self ties", "begin": "self tie", "end": "self tie", "beginnings": "self point", "loose_points": "self",
        "is_road": "self value", "tight": "self road", "gone_back": "self road", "__eq__": "self other", "__len__": "self",
        "__iter__": "self", "__str__": "self",
    },
    Stand: {"__init__": "self ties words images", "__eq__": "self other", "__str__": "self"},
    Desk: {
        "__init__": "self letters", "do": "self *deeds", "say": "self saying", "unsay": "self saying", "is_true": "self value",
        "undo": "self steps=1", "twin": "self", "__contains__": "self name", "__getitem__": "self name", "__len__": "self",
        "__iter__": "self", "__eq__": "self other", "__str__": "self",
    },
}
PROPERTIES = {
    Turner: ("letters", "images", "length"), Sum: ("letters", "terms"), Web: ("ties", "points", "size", "rank"),
    Stand: ("web", "letters", "words", "images", "size", "length"), Desk: ("letters", "kept", "sayings", "past"),
}
RIGHT = {
    "letters": 2, "value": (1, 2), "row": (1, -1, 2), "*words": (2, 2), "word": (1, 2, -1), "many": 3, "one": (1, 2),
    "other": (2, 1), "length": 3, "top": 4, "bottom": -6, "by": (2,), "words": ((1, 2), (2,)), "turner": GROW,
    "table": ((1, 2), (3, 4)), "moves": (("turn", 1), ("swap", 1, 2)), "letter": 2, "web": THETA, "stand": HALF,
    "ties": (1, 3), "road": (1, -3), "point": 1, "first": 3, "second": -2, "tie": 1, "place": 1, "fraction": (3, 2),
    "figures": 3, "most": 3, "power": 3, "order": (1, 2, -1, -2), "text": "web 0>0",
}
OWN = {
    lots.are_one_lot: (2, ((1,),), ((1, 1),)), turners.table_product: (((1, 2), (3, 4)), ((0, 1), (1, 1))),
    slopes.sums_product: (((ONE,),), ((ONE,),)), alike.alike_word: (GROW, GROW), alike.is_alike_word: (GROW, GROW, ()),
    two.of_table: (((2, 1), (1, 1)),), two.two_alike: (GROW, GROW), two.is_two_alike: (GROW, GROW, None),
    webs.road_between: (THETA, 0, 1), webs.reading: (THETA, ((1,), (2,), ()), (1, -2)),
    stands.stand_fault: (HALF.web.ties, HALF.words, HALF.images), stands.led: (HALF, (1, 3)), stands.behind: (HALF, HALF),
    stands.word_of: (HALF, (1, 3)),
    changes.folded: (HALF, 1, 2), changes.shrunk: (HALF, ()), changes.joined: (HALF, 1, 3),
    changes.pulled: (Stand(((0, 0), (0, 1)), ((1,), ()), ((1,), (1, 2))), 1),
    tables.row_led: (GOLD, (1, 2)), tables.weights_led: (GOLD, (1, 2)), tables.rate_paper: (GOLD, (3, 2)),
    tables.compare_rates: (GOLD, ((2,),)), gates.is_open: (HALF, (1, 3)),
    lost.common_of: (HALF, (1,), (2,)), fates.ring_led: (HALF, (1, 3), 3), fates.fate: (HALF, (1, 3)),
    fates.is_fate: (HALF, (1, 3), None), fates.lengths: (HALF, (1, 3), 3), rows.next_ties: (HALF, 1, (1, 3)),
    stairs.piece_turner: (PARTED, (1, 2), 1), stairs.shrunk_turner: (PARTED, (1, 2)), rims.twisted: (2, (1, 2, -1, -2), ((1, 2), (2, -1))),
    texts.read_word: (2, "aB"), texts.read_turner: ("turner ab a",), texts.read_stand: ("stand 0>0:a:1",), texts.read: ("turner a",),
}
JUDGES = [(words.is_word, (2,)), (words.is_common_root, (2, (1,), (1,))), (fractions.is_fraction, ()),
          (rings.is_ring, (2,)), (rings.is_between, (2, (1,), (1,))), (lots.is_all_paper, (2, ((1,), (2,)))),
          (lots.is_way, (2, ((1,),), (1,))), (moves.is_moves_of, (GROW,)), (slopes.is_undone_slopes, (2, ((1,), (2,)))),
          (alike.is_alike_word, (GROW, GROW)), (two.is_base_letter, ()), (two.is_two_kind, (GROW,)),
          (two.is_two_alike, (GROW, GROW)), (webs.is_naming, (THETA,)), (stands.is_stand_of, (GROW,)),
          (tables.is_rate_paper, (GOLD, (3, 2))), (tables.is_rate_bounds, (GOLD, 3)), (gates.is_back_paper, (HALF,)),
          (search.is_search_paper, (GROW,)), (lost.is_most_lost, (HALF,)), (fates.is_fate, (HALF, (1, 3))),
          (stairs.is_stair_paper, (GROW,)), (rims.is_order, (2,)), (rims.is_rims_paper, (2, (1, 2, -1, -2), GROW))]
WRONG_AHEAD = {
    moves.is_moves_of: (InvalidTurner,), alike.is_alike_word: (InvalidTurner,) * 2, two.is_two_kind: (InvalidTurner,),
    two.is_two_alike: (InvalidTurner,) * 2, webs.is_naming: (InvalidWeb,), stands.is_stand_of: (InvalidTurner,),
    tables.is_rate_paper: (InvalidTable, InvalidOperation), tables.is_rate_bounds: (InvalidTable, InvalidNumber),
    gates.is_back_paper: (InvalidStand,), search.is_search_paper: (InvalidTurner,), lost.is_most_lost: (InvalidStand,),
    fates.is_fate: (InvalidStand, InvalidRoad), stairs.is_stair_paper: (InvalidTurner,),
    rims.is_rims_paper: (InvalidNumber, InvalidOrder, InvalidTurner),
}


def right_arguments(call):
    """Arguments that raise nothing, by the names of the parameters."""
    return OWN[call] if call in OWN else [RIGHT[name] for name in PARAMETERS[call].split()]


class Interface(unittest.TestCase):
    def test_functions_stand_in_their_files_with_their_parameters(self):
        for call, told in PARAMETERS.items():
            found = [str(parameter) for parameter in inspect.signature(call).parameters.values()]
            self.assertEqual(found, told.split())
            home = [module.__name__ for module in MODULES if getattr(module, call.__name__, None) is call]
            self.assertIn(call.__module__, home)

    def test_methods_stand_in_their_classes_with_their_parameters(self):
        for place, methods in METHODS.items():
            for name, told in methods.items():
                self.assertIn(name, vars(place))
                found = [str(parameter) for parameter in inspect.signature(getattr(place, name)).parameters.values()]
                self.assertEqual(found, told.split())
            self.assertEqual(place.__module__, {Turner: turners, Sum: slopes, Web: webs, Stand: stands, Desk: desk}[place].__name__)

    def test_properties_are_there_from_the_start(self):
        for place, names in PROPERTIES.items():
            for name in names:
                self.assertIn(name, vars(place))
        for value in (GROW, GROW * GROW, GROW.undone(), GROW.power(20), Turner.idle(2), moves.made_by(2, ())):
            self.assertEqual((value.letters, value.length), (2, sum(map(len, value.images))))
        for value in (ONE, ONE + ONE, ONE - ONE, ONE * ONE, ONE.led(GROW), slopes.slope(2, (1,), 1)):
            self.assertEqual((value.letters, type(value.terms)), (2, dict))
        for value in (HALF, changes.halved(HALF, 2, 1), changes.folded(HALF, 1, 2), search.search_paper(GROW)[1], stands.rose_stand(GROW), stands.behind(HALF, HALF), stands.stand_power(HALF, 3)):
            self.assertEqual((type(value.web), value.letters, value.size), (Web, 2, len(value.images)))
            self.assertEqual((value.web.rank, len(value.words), value.length), (2, value.size, sum(map(len, value.images))))

    def test_lists_are_generators(self):
        for call in (words.words_of, rings.rings_of):
            self.assertTrue(inspect.isgenerator(call(2, 2)))
            self.assertTrue(inspect.isgenerator(call(None, None)))


class Operands(unittest.TestCase):
    def test_objects_that_cannot_be_iterated_over(self):
        for value in (GROW, HALF):
            for call in (iter, list, len, lambda one: 1 in one, lambda one: one[0]):
                with self.assertRaises(TypeError):
                    call(value)
        for value in (THETA, ONE):
            with self.assertRaises(TypeError):
                value[0]

    def test_operands_of_another_kind(self):
        for value in [GROW, THETA, HALF, ONE, Desk(2)]:
            for other in (3, None, "a", (1,), THETA):
                for call in (lambda: value + other, lambda: value - other, lambda: value < other, lambda: value * other if other != 3 else value + 3):
                    with self.assertRaises(TypeError):
                        call()
                self.assertIs(value == other, value is other)
                self.assertIs(value != other, value is not other)


class Calls(unittest.TestCase):
    def test_equal_calls_return_equal_results(self):
        for call in PARAMETERS:
            found = [call(*right_arguments(call)) for _ in range(3)]
            if inspect.isgenerator(found[0]):
                found = [list(one) for one in found]
            self.assertEqual(found[0], found[1])
            self.assertEqual(found[0], found[2])

    def test_rows_that_are_returned_are_tuples(self):
        found = [
            words.bare(2, (1,)), words.product(2), words.contrary(2, (1,)), words.power(2, (1,), 2), words.root(2, (1,)),
            words.common_root(2, (1,), (1,)), words.common_root(2, (1,), (2,)), fractions.fraction(1, 2),
            rings.core(2, (1,)), rings.ring(2, (1,)), rings.turned(2, (1,), (2,)), rings.between(2, (1,), (1,)),
            lots.all_paper(2, ((1,),)), lots.all_paper(1, ((1,),)), lots.way_of(1, ((1,),), (1, 1)), lots.lot_base(2, ((1,),)),
            GROW.images, (GROW * GROW).images, GROW((1, 2)), GROW.undone().images, turners.table_of(GROW),
            turners.table_product(((1,),), ((1,),)), moves.moves_of(GROW), moves.made_by(2, (("behind", 1, 2),)).images,
            slopes.slope_table(2, ((1,),)), slopes.sums_product(((ONE,),), ((ONE,),)), slopes.undone_slopes(1, ((1,),)),
            *(ONE + ONE),
            alike.turned_by(2, (1,)).images, alike.inner_word(alike.turned_by(2, (1,))), alike.turner_order(Turner.idle(2)),
            two.base_ring(1, 2), two.of_table(((2, 1), (1, 1))).images, two.two_kind(GROW), two.quotient_round(GROW),
            THETA.ties, THETA.beginnings(0), THETA.loose_points(), THETA.tight((1, -1)), THETA.gone_back((1, -2)), *THETA,
            webs.least_tree(THETA), webs.base_rounds(THETA), webs.road_between(THETA, 0, 1), webs.pieces(THETA, (1, 2)),
            webs.tight_round(THETA, (1, -2)), webs.base_naming(THETA), webs.reading(THETA, ((1,), (2,), ()), (1, -2)),
            HALF.words, HALF.images, stands.led(HALF, (1, 3)), stands.behind(HALF, HALF).images, stands.road_of(HALF, (1,)),
            changes.halved(HALF, 2, 1).images, changes.folded(HALF, 1, 2).words, tables.counts(HALF), tables.row_led(GOLD, (1, 2)),
            tables.pieces_of(GOLD), tables.table_power(GOLD, 2), tables.own_poly(GOLD), tables.rate_paper(GOLD, (2, 1)),
            tables.rate_bounds(GOLD, 2), gates.gates(HALF), gates.closed_turns(HALF), gates.turns_taken(HALF), gates.back_paper(HALF),
            search.grown_set(HALF, (1,)), search.kept_parts(HALF), search.kept_parts(stands.rose_stand(Turner.idle(2))),
            stairs.piece_turner(PARTED, (1, 2), 0)[1].images, stairs.stair_paper(GROW), stairs.shrunk_turner(PARTED, (1, 2)).images,
            rims.rims(2, (1, 2, -1, -2)), rims.rims_paper(2, (1, 2, -1, -2), GROW), rims.twist(2, (1, -1, 2, -2), 1).images, Desk(2).sayings,
            texts.read_word(2, "aB"), texts.read("turner ab a").images, texts.read("web 0>0").ties, texts.read_stand("stand 0>0:a:1").images,
            lost.most_lost(HALF), fates.ring_led(HALF, (1, 3), 2), fates.fate(HALF, (1, 3)), fates.lengths(HALF, (1,), 2),
            rows.rows_in(HALF, 1, 2), rows.row_numbers(HALF, 1, 2), rows.next_ties(HALF, 1, (1,)), staying.staying_words(Turner.idle(2), 2),
            staying.staying_base(Turner.idle(2), 2), staying.staying_rings(GROW * GROW, 4), staying.staying_roads(HALF, 3),
            stands.word_of(HALF, (1, 3)), stands.rose_stand(GROW).words, stands.stand_fault(HALF.web.ties, HALF.words, ((1, 3),) * 3),
        ]
        for one in found:
            self.assertIs(type(one), tuple)
            for inner in one:
                self.assertIn(type(inner), (tuple, int, str))

    def test_lists_that_are_passed_are_refused_and_not_changed(self):
        for call in (words.contrary, words.root, words.bare, rings.core, rings.ring, lots.all_paper, lots.lot_base,
                     lots.do_make_all, lots.lot_rank, slopes.slope_table, slopes.undone_slopes, Sum.word):
            row = [1, 2, -2]
            with self.assertRaises(InvalidWord):
                call(2, row)
            self.assertEqual(row, [1, 2, -2])

    def test_what_an_error_keeps_is_what_was_passed(self):
        row = [1, [2]]
        with self.assertRaises(InvalidNumber) as caught:
            words.is_word(row, ())
        self.assertIs(caught.exception.given, row)
        self.assertEqual(row, [1, [2]])


class Judges(unittest.TestCase):
    def test_answers_are_true_or_false(self):
        for call, ahead in JUDGES + [(THETA.is_road, ()), (Desk(2).is_true, ())]:
            for value in STRANGE + [0, 10 ** 5000, (10 ** 5000,), (1, 10 ** 5000), ("root", (), 10 ** 5000, 1)]:
                self.assertIn(type(call(*ahead, value)), (bool,))

    def test_values_are_not_changed(self):
        for call, ahead in JUDGES:
            value = [1, {"a": [2]}]
            self.assertIs(call(*ahead, value), False)
            self.assertEqual(value, [1, {"a": [2]}])

    def test_a_wrong_value_hides_no_other_error(self):
        for call, ahead in JUDGES:
            for place in range(len(ahead)):
                given = list(ahead)
                given[place] = None
                errors = WRONG_AHEAD.get(call, (InvalidNumber, InvalidWord, InvalidWord))
                with self.assertRaises(errors[place]):
                    call(*given, None)
