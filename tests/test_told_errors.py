"""Points 2, 3 and 5: which error tells which argument, and that the first wrong one is told."""

import unittest

from tests.helpers import Numbers
from wordsquares import (
    alike, alternating, book, counts, forms, kept, leading, lines, parting, parts, pieces, plain, relations, roads, sheets,
    splits, symbols, taken, turns,
)
from wordsquares.errors import (
    FormError, InvalidChange, InvalidDeed, InvalidForm, InvalidLine, InvalidNumber, InvalidPieces, InvalidSymbol,
    InvalidWidth, InvalidWord, InvalidWords, TooMany, Unlike,
)

UNIT = [[1, 0], [0, 1]]
FORM = [[1, 2], [2, 5]]
SEVEN = [[int(i == j) for j in range(7)] for i in range(7)]


def deep(value):
    """A value nested 30 deep."""
    for _ in range(29):
        value = [value]
    return [value]


def others():
    """Values that are nothing that any argument has to be."""
    return [
        None, True, False, "", "1", "form", (), (1,), (1, 2), {}, {"a": 1}, {0: [1]}, InvalidForm([1]),
        book.FormBook(3, [[1]]), [book.FormBook(3, [[1]])], (book.FormBook(3, [[1]]),),
        [None], [True], ["1"], [[]], [[None]], [[True]], [["1"]], [{}], deep(1), deep("x"), (FORM,), (UNIT, UNIT),
    ]


def no_widths():
    return others() + [0, -1, 65, 64 + 2 ** 64, 10 ** 29, -10 ** 29, [3], (3,), [], FORM]


def no_rows():
    """What is no list of n lists of n whole numbers, n from 1 to 6."""
    return others() + [
        0, 1, -1, 10 ** 29, [], [1], [1, 2], ((1,),), [(1,)], [[1, 2], (2, 5)], ([1, 2], [2, 5]), [[1, 2]],
        [[1], [2]], [[1, 2], [2]], [[1, 2], [2, 5, 0]], [[1, 2], [2, 5], [0, 0]], [[1, 2], [2, None]],
        [[1, 2], [2, True]], [[1, False], [0, 1]], [[1, "2"], ["2", 5]], [[1, [2]], [[2], 5]], SEVEN, [FORM],
        {0: [1]}, "11", [[1, 2], None], [[1, 2], 2],
    ]


def no_forms():
    return no_rows() + [[[1, 2], [3, 5]], [[1, 2, 3], [2, 4, 5], [3, 6, 6]], [[0, 1], [-1, 0]]]


def no_changes():
    return no_rows() + [
        [[0]], [[2]], [[-2]], [[2, 1], [0, 1]], [[1, 1], [1, 1]], [[0, 0], [0, 0]], [[1, 2], [3, 4]],
        [[1, 1, 0], [0, 1, 1], [1, 0, 1]], [[10 ** 29]],
    ]


def no_pieces():
    return others() + [
        0, 1, ((0, 1),), (0, 1), [0], [(0,)], [(0, 1, 0)], [()], [[0, 1]], [(0, 1), [0, 1]], [(0, 1), None],
        [(-1, 1)], [(True, 1)], [(False, 1)], [(0, True)], [(0, False)], [(None, 1)], [(0, None)], [("0", 1)],
        [(0, "1")], [([0], 1)], [(0, (1,))], [(0, 4)], [(0, 6)], [(0, 8)], [(0, 9)], [(0, -1)], [(0, -7)],
        [(1, 1), (0, 1)], [(0, 3), (0, 1)], [(0, 1), (0, 0)], [(0, 1)] * 7, [(0, 0)] * 4, [(0, 0)] * 3 + [(0, 1)],
        [(0, 0), (0, 0)] + [(0, 1)] * 3, {(0, 1): 1}, [(0, 1), (0, 4)],
    ]


def no_one_piece():
    """What is no piece alone."""
    return [item for item in others() if item != (1, 2)] + [
        0, 1, [], [0, 1], [(0, 1)], ((0, 1),), ((0, 1), (0, 1)), (0,), (0, 1, 0), (-1, 1), (0, 4), (0, 6), (0, 8), (0, 9),
        (0, -1), (0, -7), (True, 1), (False, 1), (0, True), (0, False), (None, 1), (0, None), ("0", 1), (0, "1"),
        ([0], 1), (0, (1,)), (0, [2]), {0: 1}, "01", (1, 4), (10 ** 29, 10 ** 29),
    ]


def no_words(width, size):
    few = [0] * (size - 1)
    return others() + [
        0, 1, few, few + [0, 0], few + [-1], few + [2 ** width], few + [10 ** 29], few + [True], few + [None],
        few + ["0"], few + [[0]], few + [(0,)], tuple(few + [0]), [few + [0]], {0: 0},
    ]


def no_sizes(least):
    return others() + [0, -1, least - 1, 7, 8, 10 ** 29, [least], (least,), [], [(0, 1)]]


def no_factors():
    return others() + [0, [], [1], (1,), [(0, 1)]]


def no_words_of(width):
    return others() + [-1, 2 ** width, 2 ** width + 1, 10 ** 29, -10 ** 29, [], [0], (0,), [[0]]]


def no_numbers():
    return others() + [[], [1], (1,), [(0, 1)], FORM]


def no_symbols():
    """Many more of them are made in the tests of symbols."""
    return others() + [
        0, 1, [], FORM, PIECES, ([], [], 0), ([], [], 7), ([], [], True), ([], []), [[], [], 1], ([], [], 1, 1), ((), (), 1),
        ([(0, 1, True, 1)], [(0, 3)], 0), ([(0, 1, True, 1)], [(0, 1)], False), ([(0, 1, 1, 1)], [(0, 1)], 0),
        ([(0, 1, True, True)], [(0, 1)], 0), ([(0, True, True, 1)], [(0, 1)], 0), ([(False, 1, True, 1)], [(0, 1)], 0),
        ([(0, 1, True, 1)], [(0, True)], 0), ([(0, 1, True, 1)], [(False, 1)], 0), ([(0, 1, True, 1)], [[0, 1]], 0),
        ([[0, 1, True, 1]], [(0, 1)], 0), ([(0, 1, True, -1)], [(0, 1)], 0), ([(0, 1, True, 0)], [(0, 1)], 0),
        ([(0, 2, False, 1), (0, 2, False, 1)], [], 0), ([(1, 2, False, 1), (0, 2, False, 1)], [], 0),
        ([(0, 1, True, 1)], [], 0), ([(0, 1, True, 1)], [(0, 9)], 0), ([(0, 1, True, 1)], [(0, 1)], -1),
        ([(0, 2, False, 1)], [(0, 0)], 0), ([(0, 1, False, 1)], [], 0), ([(-1, 2, False, 1)], [], 0),
        ([(0, 2, False, 1), (1, 2, False, 1), (2, 2, False, 1), (3, 2, False, 1)], [], 0),
        ([(0, 1, True, 1), (1, 1, True, -1)], [(0, 4)], 0), ([(0, 1, True, 1), (1, 1, True, 1)], [(0, 2), (1, 1)], 0),
    ]


def no_sheets():
    """What is no list of 1 to 6 lists of equally many whole numbers, 1 to 6 of them."""
    return others() + [
        0, 1, -1, 10 ** 29, [], [1], [1, 2], ((1,),), [(1,)], [[1, 2], (2, 5)], ([1, 2], [2, 5]), [[1, 2], [2]], [[1], [2, 5]],
        [[1, 2], []], [[], []], [[1, None]], [[1, True]], [[False]], [["1"]], [[1, [2]]], SEVEN, [[0] * 7], [[0]] * 7, [[[1]]],
        {0: [1]}, "11", [[1, 2], None], [[1, 2], 2], [[1, 2], "34"],
    ]


def no_alternating():
    """What is no alternating sheet at the width 3."""
    return no_sheets() + [
        [[1]], [[4]], [[0, 1]], [[0], [0]], [[0, 1], [1, 0]], [[0, 1], [6, 0]], [[4, 0], [0, 0]], [[0, 1], [7, 4]], UNIT, FORM,
        [[0, 0], [0, 0], [0, 0]],
    ]


def no_lines():
    """Many more of them are made in the tests of lines."""
    return others() + [
        0, 3, [], "3", "3:", ":1", "3:1,2", "3:1;2", "3:1,2;5;", "03:1", "3:01", "+3:1", "3:+1", "3:-0", " 3:1", "3:1 ", "3:1\n",
        "0:1", "65:1", "3:1,2;5,6", "3:1:2", "3: 1", "3:--1", "3:1,,2;5", ["3:1"], ("3:1",), (3, [[1]]), {"3:1": 1},
    ]


def no_scales(least):
    """What is no count from a least one to 64."""
    return others() + [-1, least - 1, 65, 10 ** 29, [least], (least,), [], str(least)]


def no_odd_numbers():
    return others() + [0, 2, -2, 10 ** 29, [1], (1,), []]


def no_pair_kinds():
    return others() + [1, 3, -2, 4, 10 ** 29, [0], (2,), [], "0"]


def no_steps(width, size):
    """What is no list of steps."""
    top = 2 ** width
    wrong = [
        None, 0, "add", (), [], {}, ("add",), ("times",), ("add", 0), ("add", 0, 1), ("times", 0), ("times", 0, 1, 1),
        ("add", 0, 1, 1, 1), ["add", 0, 1, 1], ["times", 0, 1], ("add", 0, 0, 1), ("add", 1, 1, 1), ("add", 0, size, 1),
        ("add", size, 0, 1), ("add", -1, 0, 1), ("add", 0, -1, 1), ("add", 0, 1, -1), ("add", 0, 1, top), ("add", 0, 1, 10 ** 29),
        ("add", 0, 1, True), ("add", 0, True, 1), ("add", False, 1, 1), ("add", 0, 1, None), ("add", "0", 1, 1), ("add", 0, [1], 1),
        ("times", 0, 0), ("times", 0, 2), ("times", 0, -1), ("times", 0, top + 1), ("times", size, 1), ("times", -1, 1),
        ("times", True, 1), ("times", 0, True), ("times", 0, None), ("times", None, 1), ("Add", 0, 1, 1), ("TIMES", 0, 1),
        ("add", 0, 1, "1"), (None, 0, 1, 1), (["add"], 0, 1, 1), ("times", (0,), 1), ("", 0, 1), ("add", 0, 1, (1,)),
    ]
    right = ("times", 0, 1)
    lists = [[item] for item in wrong] + [[right, item] for item in wrong] + [[item, right] for item in wrong[::3]]
    return [item for item in others() if item != []] + [0, 1, "add", ("add", 0, 1, 1), (right,), ((right,),), {0: right}] + lists


SIX = [[int(i == j) for j in range(6)] for i in range(6)]
FIVE = [row[:5] for row in SIX[:5]]
THREE = [row[:3] for row in SIX[:3]]
PIECES = [(0, 1), (0, 2)]
WIDTH = ("width", 3, [(InvalidWidth, no_widths())])
FORM_TOLD = ("form", FORM, [(InvalidForm, no_forms())])
ONE = ("one", FORM, [(InvalidForm, no_forms())])
OTHER = ("other", [[1, 4], [4, 5]], [(InvalidForm, no_forms()), (Unlike, [[[1]], THREE, SIX])])


def arguments_told():
    """The list of the tuples (function, parameters).

    Each parameter is a tuple (name, right value, list of tuples (error, wrong values)).
    """
    return (
        told_of_forms_and_pieces() + told_of_symbols() + told_of_two_forms() + told_of_changes() + told_of_counts()
        + told_of_turns() + told_of_parts() + told_of_kept_forms() + told_of_sheets() + told_of_lines_and_books()
    )


def told_of_forms_and_pieces():
    width, form, one, other = WIDTH, FORM_TOLD, ONE, OTHER
    change = ("change", UNIT, [(InvalidChange, no_changes())])
    words = ("words", [7, 2], [(InvalidWords, no_words(3, 2))])
    some = ("pieces", PIECES, [(InvalidPieces, no_pieces())])
    value = ("value", (PIECES, UNIT), [])
    return [
        (forms.value_at, [width, form, words]),
        (forms.table_of, [width, form]),
        (forms.parting_words, [width, one, other]),
        (forms.beside, [one, ("other", [[1]], [(InvalidForm, no_forms() + [FIVE, SIX])])]),
        (forms.determinant, [("rows", FORM, [(InvalidChange, no_rows())])]),
        (forms.changed, [form, ("change", UNIT, [(InvalidChange, no_changes() + [[[1]], THREE, SIX])])]),
        (forms.moved, [width, change, words]),
        (forms.joined, [
            ("one", UNIT, [(InvalidChange, no_changes())]),
            ("other", UNIT, [(InvalidChange, no_changes() + [[[1]], THREE, SIX])]),
        ]),
        (forms.undone, [width, change]),
        (pieces.unknowns_of, [some]),
        (pieces.sum_of, [some, ("size", 3, [(InvalidNumber, no_sizes(3))])]),
        (pieces.cut, [width, some]),
        (pieces.times, [some, ("number", -3, [(InvalidNumber, no_factors())])]),
        (pieces.together, [
            ("one", PIECES, [(InvalidPieces, no_pieces())]),
            ("other", PIECES, [(InvalidPieces, no_pieces() + [[(0, 1)] * 4, [(0, 0)] * 2, [(5, 7)] * 6])]),
        ]),
        (splits.pieces_at, [width, form]),
        (splits.split, [width, form]),
        (splits.is_split, [width, form, value]),
        (splits.pieces_of, [form]),
        (splits.scales_of, [form]),
        (splits.fewest_twos, [form]),
    ]


def told_of_symbols():
    some = ("pieces", PIECES, [(InvalidPieces, no_pieces())])
    size = ("size", 2, [(InvalidNumber, no_sizes(1))])
    return [
        (symbols.signs_of, [some]),
        (symbols.chains_of, [some]),
        (symbols.ways_of, [some]),
        (symbols.symbol_of, [some, ("size", 3, [(InvalidNumber, no_sizes(3))])]),
        (symbols.symbol, [FORM_TOLD]),
        (symbols.pieces_of_symbol, [("value", ([], [], 1), [(InvalidSymbol, no_symbols())])]),
        (symbols.plain_pieces, [FORM_TOLD]),
        (plain.plain_at, [WIDTH, FORM_TOLD]),
        (plain.how_many_classes, [WIDTH, size]),
        (plain.class_at, [WIDTH, size, ("number", 27, [(InvalidNumber, no_numbers() + [-1, 28, 29, 10 ** 29, -10 ** 29])])]),
        (plain.class_number, [WIDTH, FORM_TOLD]),
    ]


def told_of_two_forms():
    value = ("value", (1, 1, 2, 0), [])
    lists = [item for item in others() if not isinstance(item, list)] + [0, 1, 10 ** 29, (UNIT,), "forms"]
    listed = ("forms", [UNIT, FORM], [(InvalidForm, lists)])
    return [
        (alike.are_alike, [ONE, OTHER]),
        (alike.alike_at, [WIDTH, ONE, OTHER]),
        (alike.parting_width, [ONE, OTHER]),
        (alike.grouped, [listed]),
        (alike.grouped_at, [WIDTH, listed]),
        (parting.parting_sign, [ONE, OTHER]),
        (parting.parting_word, [ONE, OTHER]),
        (parting.is_parting_word, [ONE, OTHER, value]),
        (parting.equal_counts, [WIDTH, ONE, OTHER]),
        (parting.low_scales, [WIDTH, FORM_TOLD]),
    ]


def told_of_changes():
    low, one = ("low", 2, [(InvalidNumber, no_scales(0))]), ("one", -3, [(InvalidNumber, no_odd_numbers())])
    high, kind = ("high", 2, [(InvalidNumber, no_scales(2))]), ("kind", 2, [(InvalidNumber, no_pair_kinds())])
    above = ("high", 3, [(InvalidNumber, no_scales(3) + [2, 1, 0])])
    odd = ("other", 5, [(InvalidNumber, no_odd_numbers())])
    number = ("number", -4, [(InvalidNumber, no_numbers() + [1, -1, 3, 10 ** 29 + 1])])
    here, there = [(name, PIECES, [(InvalidPieces, no_pieces())]) for name in ("one", "other")]
    value = ("value", [PIECES], [])
    wrong_forms = [(InvalidForm, no_forms()), (Unlike, [[[1]], THREE, SIX])]
    return [
        (relations.squares_turned, [low, one, high, odd, number]),
        (relations.square_beside_pair, [low, one, high, kind]),
        (relations.pair_beside_square, [low, kind, above, one]),
        (relations.pairs_turned, [("scale", 64, [(InvalidNumber, no_scales(0))])]),
        (roads.exchanged, [("pieces", PIECES, [(InvalidPieces, no_pieces())])]),
        (roads.road, [here, there]),
        (roads.is_road, [here, there, value]),
        (leading.change_of_steps, [
            WIDTH, ("size", 2, [(InvalidNumber, no_sizes(1))]), ("steps", [], [(InvalidChange, no_steps(3, 2))])]),
        (leading.steps_of, [WIDTH, ("change", UNIT, [(InvalidChange, no_changes())])]),
        (leading.is_leading, [WIDTH, ONE, OTHER, ("value", UNIT, [])]),
        (leading.leading_change, [WIDTH, ONE, ("other", UNIT, wrong_forms + [(Unlike, [[[0, 1], [1, 0]], [[3, 0], [0, 3]]])])]),
        (leading.plain_change, [WIDTH, FORM_TOLD]),
        (leading.all_leading, [WIDTH, ONE, OTHER]),
    ]


def told_of_counts():
    whole = ("number", -4, [(InvalidNumber, no_numbers())])
    many = ("many", 64, [(InvalidNumber, no_numbers() + [0, -1, 65, 10 ** 29])])
    return [
        (counts.how_often, [WIDTH, FORM_TOLD, ("word", 7, [(InvalidWord, no_words_of(3))])]),
        (counts.all_counts, [WIDTH, FORM_TOLD]),
        (counts.counts_along, [FORM_TOLD, whole, many]),
        (counts.odd_noughts, [WIDTH, FORM_TOLD]),
    ]


def told_of_turns():
    number = ("number", -4, [(InvalidNumber, no_numbers())])
    times = ("times", -4, [(InvalidNumber, no_numbers())])
    return [
        (taken.takes, [WIDTH, FORM_TOLD, ("word", 7, [(InvalidWord, no_words_of(3))])]),
        (taken.lacking, [WIDTH, FORM_TOLD]),
        (taken.lacking_width, [FORM_TOLD, number]),
        (taken.takes_all, [FORM_TOLD]),
        (taken.first_lacking, [FORM_TOLD]),
        (taken.odd_nought_width, [FORM_TOLD]),
        (turns.turn_sum, [WIDTH, FORM_TOLD, times]),
        (turns.piece_turn, [WIDTH, ("piece", (1000, 0), [(InvalidPieces, no_one_piece())]), times]),
        (turns.turn_table, [WIDTH, FORM_TOLD]),
        (turns.taken_by_turns, [WIDTH, FORM_TOLD]),
        (turns.turns_part, [ONE, OTHER]),
        (turns.halves_at, [WIDTH, FORM_TOLD]),
        (turns.zero_widths, [FORM_TOLD]),
    ]


def told_of_parts():
    part = ("part", [[1]], [(InvalidForm, no_forms()), (Unlike, [THREE, FIVE, SIX])])
    return [
        (parts.is_part, [FORM_TOLD, part]),
        (parts.rests, [FORM_TOLD, part]),
        (parts.is_sure, [FORM_TOLD, part]),
        (parts.pieces_in, [FORM_TOLD]),
        (parts.parts_of, [FORM_TOLD, ("size", 2, [(InvalidNumber, no_sizes(1) + [3, 4, 5, 6])])]),
        (parts.common_parts, [ONE, ("other", THREE, [(InvalidForm, no_forms())])]),
    ]


def told_of_kept_forms():
    size = ("size", 2, [(InvalidNumber, no_sizes(1))])
    return [
        (kept.how_many_changes, [WIDTH, size]),
        (kept.how_many_tables, [WIDTH, size]),
        (kept.how_many_keep, [WIDTH, FORM_TOLD]),
        (kept.how_many_alike, [WIDTH, FORM_TOLD]),
        (kept.keeping, [WIDTH, FORM_TOLD]),
        (kept.is_keeping, [WIDTH, FORM_TOLD, ("value", UNIT, [])]),
        (kept.settled_width, [FORM_TOLD]),
        (kept.kept_from, [FORM_TOLD]),
        (kept.shares, [FORM_TOLD]),
    ]


def told_of_sheets():
    sheet = ("sheet", [[2, 4, 1], [6, 0, 3]], [(InvalidForm, no_sheets())])
    turned = ("sheet", [[0, 6], [2, 0]], [(InvalidForm, no_alternating())])
    one, other = [(name, [[2, 4], [6, 0]], [(InvalidForm, no_sheets())]) for name in ("one", "other")]
    value = ("value", None, [])
    return [
        (sheets.rungs, [WIDTH, sheet]),
        (sheets.are_like, [WIDTH, one, other]),
        (sheets.rungs_everywhere, [sheet]),
        (sheets.diagonal, [WIDTH, sheet]),
        (sheets.is_diagonal, [WIDTH, sheet, value]),
        (sheets.pair_count, [WIDTH, sheet, ("word", 7, [(InvalidWord, no_words_of(3))])]),
        (sheets.silent, [WIDTH, sheet]),
        (alternating.is_alternating, [WIDTH, value]),
        (alternating.pair_rungs, [WIDTH, turned]),
        (alternating.paired, [WIDTH, turned]),
        (alternating.is_paired, [WIDTH, turned, value]),
    ]


def told_of_lines_and_books():
    no_books = [item for item in others() if type(item) is not book.FormBook] + [0, 3, FORM, (3, FORM), [3, FORM], "3:1"]
    return [
        (lines.line_of, [WIDTH, FORM_TOLD]),
        (lines.of_line, [("line", "3:1,2;5", [(InvalidLine, no_lines())])]),
        (book.FormBook, [WIDTH, FORM_TOLD]),
        (book.is_deed, [("book", book.FormBook(3, FORM), [(InvalidDeed, no_books)]), ("value", None, [])]),
    ]


class ToldErrors(unittest.TestCase):

    def assert_told(self, error, wrong, function, values, by_name):
        try:
            function(**values) if by_name else function(*values.values())
        except FormError as found:
            self.assertIs(type(found), error, (function.__name__, values))
            self.assertIs(found.value, wrong, (function.__name__, values))
        else:
            self.fail((function.__name__, values))

    def test_each_wrong_argument_is_told(self):
        many = 0
        for function, parameters in arguments_told():
            right = {name: value for name, value, _ in parameters}
            function(**right)
            for name, _, kinds in parameters:
                for error, wrongs in kinds:
                    for wrong in wrongs:
                        values = {**right, name: wrong}
                        self.assert_told(error, wrong, function, values, False)
                        self.assert_told(error, wrong, function, values, True)
                        many += 1
        self.assertGreater(many, 1500)

    def test_of_two_wrong_arguments_the_first_is_told(self):
        for function, parameters in arguments_told():
            for at, (name, _, kinds) in enumerate(parameters):
                for error, wrongs in kinds:
                    for wrong in wrongs:
                        values = {ahead: value for ahead, value, _ in parameters[:at]}
                        values[name] = wrong
                        for behind, right, told in parameters[at + 1:]:
                            values[behind] = told[0][1][0] if told else None
                        self.assert_told(error, wrong, function, values, False)

    def test_bounds_are_those_of_the_other_arguments(self):
        for width in (1, 2, 63, 64):
            for wrong in no_words_of(width):
                self.assert_told(InvalidWord, wrong, counts.how_often, {"w": width, "f": FORM, "x": wrong}, False)
            counts.how_often(width, FORM, 2 ** width - 1)
        for size in range(1, 7):
            some = [(0, 1)] * size
            for wrong in no_sizes(size):
                self.assert_told(InvalidNumber, wrong, symbols.symbol_of, {"pieces": some, "size": wrong}, True)
            for wrong in no_steps(3, size):
                values = {"width": 3, "size": size, "steps": wrong}
                self.assert_told(InvalidChange, wrong, leading.change_of_steps, values, True)
        for low in (0, 1, 63, 64):
            relations.squares_turned(low, 1, low, 1, 0)
            for wrong in no_scales(low):
                self.assert_told(InvalidNumber, wrong, relations.squares_turned, {"a": low, "b": 1, "c": wrong, "d": 1, "e": 0}, False)
                self.assert_told(InvalidNumber, wrong, relations.square_beside_pair, {"a": low, "b": 1, "c": wrong, "d": 0}, False)
            for wrong in no_scales(low + 1):
                self.assert_told(InvalidNumber, wrong, relations.pair_beside_square, {"a": low, "b": 0, "c": wrong, "d": 1}, False)

    def test_bounds_of_parts_and_words_are_those_of_the_form(self):
        for many in range(1, 7):
            form = [row[:many] for row in SIX[:many]]
            for size in range(-1, 9):
                part = [[int(i == j) for j in range(size)] for i in range(size)]
                if 1 <= size <= many:
                    self.assertIs(parts.is_part(form, part), True)
                    self.assertEqual(len(parts.parts_of(form, size)) > 0, True)
                else:
                    error = Unlike if many < size <= 6 else InvalidForm
                    for function in (parts.is_part, parts.rests, parts.is_sure):
                        self.assert_told(error, part, function, {"form": form, "part": part}, True)
                    self.assert_told(InvalidNumber, size, parts.parts_of, {"form": form, "size": size}, True)
        for width in (1, 2, 63, 64):
            for wrong in no_words_of(width):
                self.assert_told(InvalidWord, wrong, taken.takes, {"w": width, "f": FORM, "x": wrong}, False)
            taken.takes(width, FORM, 2 ** width - 1)

    def test_sheets_of_all_numbers_of_lists_and_items(self):
        for many in range(8):
            for items in range(8):
                sheet = [[1] * items for _ in range(many)]
                if 1 <= many <= 6 and 1 <= items <= 6:
                    self.assertEqual(sheets.rungs_everywhere(sheet), [0])
                    self.assertIs(sheets.are_like(3, [[1]], sheet), many * items == 1)
                else:
                    self.assert_told(InvalidForm, sheet, sheets.rungs, {"width": 3, "sheet": sheet}, True)
                    self.assert_told(InvalidForm, sheet, sheets.are_like, {"width": 3, "one": [[1]], "other": sheet}, True)
        for width in (1, 2, 63, 64):
            for wrong in no_words_of(width):
                self.assert_told(InvalidWord, wrong, sheets.pair_count, {"w": width, "s": FORM, "x": wrong}, False)
            sheets.pair_count(width, FORM, 2 ** width - 1)

    def test_alternating_sheets_are_told_by_their_own_width(self):
        turned = [[0, 1], [7, 0]]
        for width in range(1, 65):
            for function in (alternating.pair_rungs, alternating.paired):
                if width <= 3:
                    function(width, turned)
                else:
                    self.assert_told(InvalidForm, turned, function, {"width": width, "sheet": turned}, True)
            self.assertIs(alternating.is_alternating(width, turned), width <= 3)

    def test_errors_of_a_book(self):
        some = book.FormBook(3, FORM)
        for wrong in no_words(3, 2):
            self.assert_told(InvalidWords, wrong, some.value, {"words": wrong}, True)
        for wrong in others() + [("only", [2]), ("width", 65)]:
            if type(wrong) is not book.FormBook:
                self.assert_told(InvalidDeed, wrong, some.alike, {"other": wrong}, True)
            self.assert_told(InvalidDeed, wrong, some.do, {"deed": wrong}, True)
            self.assertIs(book.is_deed(some, wrong), False)
        self.assertEqual((some.width(), some.form(), some.log()), (3, FORM, []))

    def assert_too_many(self, number, function, *arguments):
        with self.assertRaises(TooMany) as found:
            function(*arguments)
        self.assertEqual((type(found.exception), found.exception.value), (TooMany, number), arguments)

    def test_too_many_tells_how_many_lists_there_are(self):
        for size in range(1, 7):
            nought = [[0] * size for _ in range(size)]
            high = [[int(i == j) << 60 for j in range(size)] for i in range(size)]
            for width in range(1, 65):
                for form in (nought, high):
                    settled = form is high and width >= 63
                    for function in (kept.how_many_keep, kept.how_many_alike, kept.keeping):
                        if width * size > 6 and not settled:
                            self.assert_too_many(2 ** (width * size), function, width, form)
        for function in (kept.how_many_keep, kept.how_many_alike, kept.keeping):
            self.assert_told(InvalidWidth, 65, function, {"width": 65, "form": SIX}, True)
            self.assert_told(InvalidForm, SEVEN, function, {"width": 64, "form": SEVEN}, True)
            self.assert_too_many(2 ** 384, function, 64, [[0] * 6] * 6)

    def test_too_many_changes_are_told_by_their_number(self):
        for width, form in ((1, [[0] * 4] * 4), (2, [[0] * 3] * 3), (1, SIX), (64, SIX), (3, THREE), (12, UNIT), (63, [[2 ** 60]])):
            many = kept.how_many_keep(width, form)
            self.assertGreater(many, 2000)
            self.assert_too_many(many, kept.keeping, width, form)

    def test_any_number_where_the_scales_are_unlike(self):
        for number in (-10 ** 29, -3, -1, 0, 1, 2, 10 ** 29 + 1):
            self.assertEqual(relations.squares_turned(0, 1, 1, 1, number)[1], 1 + 2 * number * number)

    def test_wrong_words_are_told_by_their_own_width_and_size(self):
        numbers = Numbers(3)
        for width in (1, 2, 8, 63, 64):
            for size in range(1, 7):
                form, change = numbers.form(size, 10), numbers.change(size, 3)
                for wrong in no_words(width, size):
                    self.assert_told(InvalidWords, wrong, forms.value_at, {"w": width, "f": form, "x": wrong}, False)
                    self.assert_told(InvalidWords, wrong, forms.moved, {"w": width, "c": change, "x": wrong}, False)

    def test_a_call_that_raises_changes_nothing(self):
        one, other = [[1, 2], [2, 5]], [[1, 2], [3, 5]]
        for function in (forms.beside, forms.joined):
            with self.assertRaises(FormError):
                function(one, other if function is forms.beside else [[2, 0], [0, 1]])
        self.assertEqual((one, other), ([[1, 2], [2, 5]], [[1, 2], [3, 5]]))

    def test_unlike_stands_behind_the_errors_of_both(self):
        self.assert_told(InvalidForm, (), forms.parting_words, {"w": 3, "one": (), "other": [[1]]}, False)
        wrong = [[1, 2], [3, 4]]
        self.assert_told(InvalidForm, wrong, forms.parting_words, {"w": 3, "one": [[1]], "other": wrong}, False)

    def test_six_unknowns_together_are_no_error_and_seven_are(self):
        for many in range(1, 6):
            low = [row[:many] for row in SIX[:many]]
            high = [row[:6 - many] for row in SIX[:6 - many]]
            self.assertEqual(forms.beside(low, high), SIX)
            more = [row[:7 - many] for row in SIX[:7 - many]]
            self.assert_told(InvalidForm, more, forms.beside, {"one": low, "other": more}, True)
            some, rest = [(0, 1)] * many, [(0, 1)] * (6 - many)
            self.assertEqual(pieces.together(some, rest), [(0, 1)] * 6)
            over = rest + [(0, 1)]
            self.assert_told(InvalidPieces, over, pieces.together, {"one": some, "other": over}, True)

    def test_sizes_just_at_and_just_below_the_unknowns(self):
        for some, least in (([], 0), ([(0, 1)], 1), ([(0, 0)], 2), ([(0, 0), (3, 1), (4, 2)], 5), ([(9, 2)] * 3, 6)):
            for size in range(-1, 9):
                if 1 <= size <= 6 and size >= least:
                    self.assertEqual(len(pieces.sum_of(some, size)), size)
                else:
                    self.assert_told(InvalidNumber, size, pieces.sum_of, {"pieces": some, "size": size}, True)

    def test_widths_just_at_the_bounds(self):
        for width in (1, 64):
            self.assertEqual(forms.table_of(width, [[1]]), [[1]])
            self.assertEqual(pieces.cut(width, [(0, 1)]), [(0, 1)])
            self.assertEqual(splits.pieces_at(width, [[1]]), [(0, 1)])
        for width in (0, 65):
            self.assert_told(InvalidWidth, width, forms.table_of, {"width": width, "form": [[1]]}, True)

    def test_great_numbers_and_scales_are_no_error(self):
        self.assertEqual(forms.table_of(4, [[10 ** 40 + 3]]), [[(10 ** 40 + 3) % 16]])
        self.assertEqual(pieces.unknowns_of([(1001, 7), (10 ** 40, 0)]), 3)
        self.assertEqual(pieces.cut(64, [(0, 5), (10 ** 29, 0)]), [(0, 5)])
        self.assertEqual(pieces.times([(0, 5)], 10 ** 40), [(40, 5 * 5 ** 40 % 8)])


class Questions(unittest.TestCase):

    def test_is_form(self):
        for value in no_forms():
            self.assertIs(forms.is_form(value), False, value)
        for value in (FORM, SIX, [[0]], [[-10 ** 29]], [[0, -1], [-1, 0]], UNIT):
            self.assertIs(forms.is_form(value), True, value)

    def test_is_change(self):
        for value in no_changes():
            self.assertIs(forms.is_change(value), False, value)
        for value in (FORM, SIX, [[1]], [[-1]], [[10 ** 29 + 1]], [[2, 1], [1, 2]], [[0, 1], [-1, 0]], [[2, 3], [5, 4]]):
            self.assertIs(forms.is_change(value), True, value)

    def test_is_pieces(self):
        for value in no_pieces():
            self.assertIs(pieces.is_pieces(value), False, value)
        for value in ([], PIECES, [(0, 1)] * 6, [(0, 0)] * 3, [(0, 2), (1000, 0)], [(0, 7), (1, 1)], [(5, 0), (5, 1), (5, 2)]):
            self.assertIs(pieces.is_pieces(value), True, value)

    def test_is_symbol(self):
        for value in no_symbols():
            self.assertIs(symbols.is_symbol(value), False, value)
        for value in (([], [], 1), ([(0, 2, False, -1)], [], 4), ([(7, 1, True, -1)], [(7, 5)], 0), ([(7, 1, True, 1)], [(7, 7)], 5)):
            self.assertIs(symbols.is_symbol(value), True, value)

    def test_any_value_is_judged_in_the_last_place(self):
        anything = others() + no_pieces() + no_changes() + no_steps(3, 2) + no_symbols() + [PIECES, [None, PIECES], (1, 1, 2)]
        for value in anything:
            self.assertIs(parting.is_parting_word(FORM, UNIT, value), False, value)
            self.assertIs(roads.is_road(PIECES, PIECES, value), False, value)
            self.assertIs(roads.is_road(PIECES, PIECES, [value]), value == PIECES, value)
            self.assertIs(roads.is_road([], [], value), value == [[]] and isinstance(value, list), value)
            self.assertIs(leading.is_leading(3, FORM, UNIT, [value]), False, value)
            self.assertIs(kept.is_keeping(3, FORM, value), False, value)
            self.assertIs(sheets.is_diagonal(3, FORM, value), False, value)
            self.assertIs(alternating.is_paired(3, [[0, 6], [2, 0]], value), False, value)
            self.assertIs(book.is_deed(book.FormBook(3, FORM), value), False, value)
        for value in no_changes() + [[[1]], THREE, SIX]:
            self.assertIs(leading.is_leading(3, [[0, 0], [0, 0]], [[0, 0], [0, 0]], value), False, value)
            self.assertIs(kept.is_keeping(3, [[0, 0], [0, 0]], value), False, value)

    def test_is_alternating(self):
        for value in no_alternating():
            self.assertIs(alternating.is_alternating(3, value), False, value)
        for value in ([[0]], [[8]], [[0, 1], [7, 0]], [[-8, 9], [-1, 16]], [[0] * 6] * 6):
            self.assertIs(alternating.is_alternating(3, value), True, value)

    def test_is_split_takes_any_value(self):
        for value in others() + no_pieces() + no_changes():
            self.assertIs(splits.is_split(3, FORM, value), False, value)
        right = ([(0, 1), (0, 1)], [[1, 6], [0, 1]])
        self.assertIs(splits.is_split(3, FORM, right), True)
        for wrong in no_pieces():
            self.assertIs(splits.is_split(3, FORM, (wrong, right[1])), False, wrong)
        for wrong in no_changes() + [[[1]], THREE, SIX]:
            self.assertIs(splits.is_split(3, FORM, (right[0], wrong)), False, wrong)
        for wrong in (list(right), right[:1], right + (1,), (right,), right[::-1], {0: right}):
            self.assertIs(splits.is_split(3, FORM, wrong), False, wrong)


if __name__ == "__main__":
    unittest.main()
