"""Points 2, 3 and 5: which error tells which argument, and that the first wrong one is told."""

import unittest

from tests.helpers import Numbers
from wordsquares import forms, pieces, splits
from wordsquares.errors import (
    FormError, InvalidChange, InvalidForm, InvalidNumber, InvalidPieces, InvalidWidth, InvalidWords, Unlike,
)

UNIT = [[1, 0], [0, 1]]
FORM = [[1, 2], [2, 5]]
SEVEN = [[int(i == j) for j in range(7)] for i in range(7)]


def deep(value):
    """A value nested 30 deep."""
    for _ in range(29):
        value = [value]
    return [value]


def others():
    """Values that are nothing that any argument has to be."""
    return [
        None, True, False, "", "1", "form", (), (1,), (1, 2), {}, {"a": 1}, {0: [1]}, InvalidForm([1]),
        [None], [True], ["1"], [[]], [[None]], [[True]], [["1"]], [{}], deep(1), deep("x"), (FORM,), (UNIT, UNIT),
    ]


def no_widths():
    return others() + [0, -1, 65, 64 + 2 ** 64, 10 ** 29, -10 ** 29, [3], (3,), [], FORM]


def no_rows():
    """What is no list of n lists of n whole numbers, n from 1 to 6."""
    return others() + [
        0, 1, -1, 10 ** 29, [], [1], [1, 2], ((1,),), [(1,)], [[1, 2], (2, 5)], ([1, 2], [2, 5]), [[1, 2]],
        [[1], [2]], [[1, 2], [2]], [[1, 2], [2, 5, 0]], [[1, 2], [2, 5], [0, 0]], [[1, 2], [2, None]],
        [[1, 2], [2, True]], [[1, False], [0, 1]], [[1, "2"], ["2", 5]], [[1, [2]], [[2], 5]], SEVEN, [FORM],
        {0: [1]}, "11", [[1, 2], None], [[1, 2], 2],
    ]


def no_forms():
    return no_rows() + [[[1, 2], [3, 5]], [[1, 2, 3], [2, 4, 5], [3, 6, 6]], [[0, 1], [-1, 0]]]


def no_changes():
    return no_rows() + [
        [[0]], [[2]], [[-2]], [[2, 1], [0, 1]], [[1, 1], [1, 1]], [[0, 0], [0, 0]], [[1, 2], [3, 4]],
        [[1, 1, 0], [0, 1, 1], [1, 0, 1]], [[10 ** 29]],
    ]


def no_pieces():
    return others() + [
        0, 1, ((0, 1),), (0, 1), [0], [(0,)], [(0, 1, 0)], [()], [[0, 1]], [(0, 1), [0, 1]], [(0, 1), None],
        [(-1, 1)], [(True, 1)], [(False, 1)], [(0, True)], [(0, False)], [(None, 1)], [(0, None)], [("0", 1)],
        [(0, "1")], [([0], 1)], [(0, (1,))], [(0, 4)], [(0, 6)], [(0, 8)], [(0, 9)], [(0, -1)], [(0, -7)],
        [(1, 1), (0, 1)], [(0, 3), (0, 1)], [(0, 1), (0, 0)], [(0, 1)] * 7, [(0, 0)] * 4, [(0, 0)] * 3 + [(0, 1)],
        [(0, 0), (0, 0)] + [(0, 1)] * 3, {(0, 1): 1}, [(0, 1), (0, 4)],
    ]


def no_words(width, size):
    few = [0] * (size - 1)
    return others() + [
        0, 1, few, few + [0, 0], few + [-1], few + [2 ** width], few + [10 ** 29], few + [True], few + [None],
        few + ["0"], few + [[0]], few + [(0,)], tuple(few + [0]), [few + [0]], {0: 0},
    ]


def no_sizes(least):
    return others() + [0, -1, least - 1, 7, 8, 10 ** 29, [least], (least,), [], [(0, 1)]]


def no_factors():
    return others() + [0, [], [1], (1,), [(0, 1)]]


SIX = [[int(i == j) for j in range(6)] for i in range(6)]
FIVE = [row[:5] for row in SIX[:5]]
THREE = [row[:3] for row in SIX[:3]]
PIECES = [(0, 1), (0, 2)]


def arguments_told():
    """The list of the tuples (function, parameters).

    Each parameter is a tuple (name, right value, list of tuples (error, wrong values)).
    """
    width = ("width", 3, [(InvalidWidth, no_widths())])
    form = ("form", FORM, [(InvalidForm, no_forms())])
    one = ("one", FORM, [(InvalidForm, no_forms())])
    other = ("other", [[1, 4], [4, 5]], [(InvalidForm, no_forms()), (Unlike, [[[1]], THREE, SIX])])
    change = ("change", UNIT, [(InvalidChange, no_changes())])
    words = ("words", [7, 2], [(InvalidWords, no_words(3, 2))])
    some = ("pieces", PIECES, [(InvalidPieces, no_pieces())])
    value = ("value", (PIECES, UNIT), [])
    return [
        (forms.value_at, [width, form, words]),
        (forms.table_of, [width, form]),
        (forms.parting_words, [width, one, other]),
        (forms.beside, [one, ("other", [[1]], [(InvalidForm, no_forms() + [FIVE, SIX])])]),
        (forms.determinant, [("rows", FORM, [(InvalidChange, no_rows())])]),
        (forms.changed, [form, ("change", UNIT, [(InvalidChange, no_changes() + [[[1]], THREE, SIX])])]),
        (forms.moved, [width, change, words]),
        (forms.joined, [
            ("one", UNIT, [(InvalidChange, no_changes())]),
            ("other", UNIT, [(InvalidChange, no_changes() + [[[1]], THREE, SIX])]),
        ]),
        (forms.undone, [width, change]),
        (pieces.unknowns_of, [some]),
        (pieces.sum_of, [some, ("size", 3, [(InvalidNumber, no_sizes(3))])]),
        (pieces.cut, [width, some]),
        (pieces.times, [some, ("number", -3, [(InvalidNumber, no_factors())])]),
        (pieces.together, [
            ("one", PIECES, [(InvalidPieces, no_pieces())]),
            ("other", PIECES, [(InvalidPieces, no_pieces() + [[(0, 1)] * 4, [(0, 0)] * 2, [(5, 7)] * 6])]),
        ]),
        (splits.pieces_at, [width, form]),
        (splits.split, [width, form]),
        (splits.is_split, [width, form, value]),
        (splits.pieces_of, [form]),
        (splits.scales_of, [form]),
        (splits.fewest_twos, [form]),
    ]


class ToldErrors(unittest.TestCase):

    def assert_told(self, error, wrong, function, values, by_name):
        try:
            function(**values) if by_name else function(*values.values())
        except FormError as found:
            self.assertIs(type(found), error, (function.__name__, values))
            self.assertIs(found.value, wrong, (function.__name__, values))
        else:
            self.fail((function.__name__, values))

    def test_each_wrong_argument_is_told(self):
        many = 0
        for function, parameters in arguments_told():
            right = {name: value for name, value, _ in parameters}
            function(**right)
            for name, _, kinds in parameters:
                for error, wrongs in kinds:
                    for wrong in wrongs:
                        values = {**right, name: wrong}
                        self.assert_told(error, wrong, function, values, False)
                        self.assert_told(error, wrong, function, values, True)
                        many += 1
        self.assertGreater(many, 1500)

    def test_of_two_wrong_arguments_the_first_is_told(self):
        for function, parameters in arguments_told():
            for at, (name, _, kinds) in enumerate(parameters):
                for error, wrongs in kinds:
                    for wrong in wrongs:
                        values = {ahead: value for ahead, value, _ in parameters[:at]}
                        values[name] = wrong
                        for behind, right, told in parameters[at + 1:]:
                            values[behind] = told[0][1][0] if told else None
                        self.assert_told(error, wrong, function, values, False)

    def test_wrong_words_are_told_by_their_own_width_and_size(self):
        numbers = Numbers(3)
        for width in (1, 2, 8, 63, 64):
            for size in range(1, 7):
                form, change = numbers.form(size, 10), numbers.change(size, 3)
                for wrong in no_words(width, size):
                    self.assert_told(InvalidWords, wrong, forms.value_at, {"w": width, "f": form, "x": wrong}, False)
                    self.assert_told(InvalidWords, wrong, forms.moved, {"w": width, "c": change, "x": wrong}, False)

    def test_a_call_that_raises_changes_nothing(self):
        one, other = [[1, 2], [2, 5]], [[1, 2], [3, 5]]
        for function in (forms.beside, forms.joined):
            with self.assertRaises(FormError):
                function(one, other if function is forms.beside else [[2, 0], [0, 1]])
        self.assertEqual((one, other), ([[1, 2], [2, 5]], [[1, 2], [3, 5]]))

    def test_unlike_stands_behind_the_errors_of_both(self):
        self.assert_told(InvalidForm, (), forms.parting_words, {"w": 3, "one": (), "other": [[1]]}, False)
        wrong = [[1, 2], [3, 4]]
        self.assert_told(InvalidForm, wrong, forms.parting_words, {"w": 3, "one": [[1]], "other": wrong}, False)

    def test_six_unknowns_together_are_no_error_and_seven_are(self):
        for many in range(1, 6):
            low = [row[:many] for row in SIX[:many]]
            high = [row[:6 - many] for row in SIX[:6 - many]]
            self.assertEqual(forms.beside(low, high), SIX)
            more = [row[:7 - many] for row in SIX[:7 - many]]
            self.assert_told(InvalidForm, more, forms.beside, {"one": low, "other": more}, True)
            some, rest = [(0, 1)] * many, [(0, 1)] * (6 - many)
            self.assertEqual(pieces.together(some, rest), [(0, 1)] * 6)
            over = rest + [(0, 1)]
            self.assert_told(InvalidPieces, over, pieces.together, {"one": some, "other": over}, True)

    def test_sizes_just_at_and_just_below_the_unknowns(self):
        for some, least in (([], 0), ([(0, 1)], 1), ([(0, 0)], 2), ([(0, 0), (3, 1), (4, 2)], 5), ([(9, 2)] * 3, 6)):
            for size in range(-1, 9):
                if 1 <= size <= 6 and size >= least:
                    self.assertEqual(len(pieces.sum_of(some, size)), size)
                else:
                    self.assert_told(InvalidNumber, size, pieces.sum_of, {"pieces": some, "size": size}, True)

    def test_widths_just_at_the_bounds(self):
        for width in (1, 64):
            self.assertEqual(forms.table_of(width, [[1]]), [[1]])
            self.assertEqual(pieces.cut(width, [(0, 1)]), [(0, 1)])
            self.assertEqual(splits.pieces_at(width, [[1]]), [(0, 1)])
        for width in (0, 65):
            self.assert_told(InvalidWidth, width, forms.table_of, {"width": width, "form": [[1]]}, True)

    def test_great_numbers_and_scales_are_no_error(self):
        self.assertEqual(forms.table_of(4, [[10 ** 40 + 3]]), [[(10 ** 40 + 3) % 16]])
        self.assertEqual(pieces.unknowns_of([(1001, 7), (10 ** 40, 0)]), 3)
        self.assertEqual(pieces.cut(64, [(0, 5), (10 ** 29, 0)]), [(0, 5)])
        self.assertEqual(pieces.times([(0, 5)], 10 ** 40), [(40, 5 * 5 ** 40 % 8)])


class Questions(unittest.TestCase):

    def test_is_form(self):
        for value in no_forms():
            self.assertIs(forms.is_form(value), False, value)
        for value in (FORM, SIX, [[0]], [[-10 ** 29]], [[0, -1], [-1, 0]], UNIT):
            self.assertIs(forms.is_form(value), True, value)

    def test_is_change(self):
        for value in no_changes():
            self.assertIs(forms.is_change(value), False, value)
        for value in (FORM, SIX, [[1]], [[-1]], [[10 ** 29 + 1]], [[2, 1], [1, 2]], [[0, 1], [-1, 0]], [[2, 3], [5, 4]]):
            self.assertIs(forms.is_change(value), True, value)

    def test_is_pieces(self):
        for value in no_pieces():
            self.assertIs(pieces.is_pieces(value), False, value)
        for value in ([], PIECES, [(0, 1)] * 6, [(0, 0)] * 3, [(0, 2), (1000, 0)], [(0, 7), (1, 1)], [(5, 0), (5, 1), (5, 2)]):
            self.assertIs(pieces.is_pieces(value), True, value)

    def test_is_split_takes_any_value(self):
        for value in others() + no_pieces() + no_changes():
            self.assertIs(splits.is_split(3, FORM, value), False, value)
        right = ([(0, 1), (0, 1)], [[1, 6], [0, 1]])
        self.assertIs(splits.is_split(3, FORM, right), True)
        for wrong in no_pieces():
            self.assertIs(splits.is_split(3, FORM, (wrong, right[1])), False, wrong)
        for wrong in no_changes() + [[[1]], THREE, SIX]:
            self.assertIs(splits.is_split(3, FORM, (right[0], wrong)), False, wrong)
        for wrong in (list(right), right[:1], right + (1,), (right,), right[::-1], {0: right}):
            self.assertIs(splits.is_split(3, FORM, wrong), False, wrong)


if __name__ == "__main__":
    unittest.main()
