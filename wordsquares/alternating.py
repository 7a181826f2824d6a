"""Alternating sheets, whose values are 0 where the words of both sides are the same."""

from wordsquares.checks import check_width
from wordsquares.errors import InvalidForm
from wordsquares.forms import is_change
from wordsquares.rows import are_rows, transposed
from wordsquares.rung_steps import paired_side, rungs_at, sheet_between


def is_alternating(width, value):
    """Whether a value is an alternating sheet at a width."""
    check_width(width)
    if not are_rows(value):
        return False
    places = [(i, j) for i in range(len(value)) for j in range(i)]
    if not all([value[i][i] % (1 << width) == 0 for i in range(len(value))]):
        return False
    return all([(value[i][j] + value[j][i]) % (1 << width) == 0 for i, j in places])


def check_alternating(width, sheet):
    """Refuse what is no width, and what is no alternating sheet there."""
    if not is_alternating(width, sheet):
        raise InvalidForm(sheet)


def pair_rungs(width, sheet):
    """The list of every second rung of an alternating sheet."""
    check_alternating(width, sheet)
    return rungs_at(width, sheet)[::2]


def paired(width, sheet):
    """A change that leads an alternating sheet, on both sides, to the one with its rungs beside the diagonal."""
    check_alternating(width, sheet)
    return paired_side(width, sheet)


def rungs_in_pairs(width, sheet):
    """The sheet that has the powers of 2 of every second rung at (0, 1), (2, 3) and so on, and else what fits them."""
    rows = [[0] * len(sheet) for _ in sheet]
    for at, k in enumerate(pair_rungs(width, sheet)):
        rows[2 * at][2 * at + 1] = 1 << k
        rows[2 * at + 1][2 * at] = (1 << width) - (1 << k)
    return rows


def is_paired(width, sheet, value):
    """Whether a value is a change that leads an alternating sheet to the one with its rungs beside the diagonal."""
    check_alternating(width, sheet)
    if not is_change(value) or len(value) != len(sheet):
        return False
    sides = transposed(value)
    return sheet_between(width, sides, sheet, sides) == rungs_in_pairs(width, sheet)
