"""Sheets, sums of products of the words of two sides that are changed each by a change of its own."""

from wordsquares.checks import MOST_UNKNOWNS, check_width, check_word, is_whole
from wordsquares.errors import InvalidForm
from wordsquares.forms import is_change
from wordsquares.rows import transposed
from wordsquares.rung_steps import diagonal_sides, rungs_at, rungs_in, sheet_between


def is_sheet(value):
    """Whether a value is a sheet."""
    if not isinstance(value, list) or not 1 <= len(value) <= MOST_UNKNOWNS:
        return False
    if not all([isinstance(row, list) and 1 <= len(row) <= MOST_UNKNOWNS for row in value]):
        return False
    return all([len(row) == len(value[0]) and all([is_whole(item) for item in row]) for row in value])


def check_sheet(sheet):
    """Refuse what is no sheet."""
    if not is_sheet(sheet):
        raise InvalidForm(sheet)


def rungs(width, sheet):
    """The list of the rungs of a sheet at a width, ascending, not always strictly."""
    check_width(width)
    check_sheet(sheet)
    return rungs_at(width, sheet)


def are_like(width, one, other):
    """Whether two changes, one for each side, lead from one sheet to another one at a width."""
    check_width(width)
    check_sheet(one)
    check_sheet(other)
    if len(one) != len(other) or len(one[0]) != len(other[0]):
        return False
    return rungs_at(width, one) == rungs_at(width, other)


def rungs_everywhere(sheet):
    """The list of the rungs that a sheet has at all great widths, ascending, not always strictly."""
    check_sheet(sheet)
    return rungs_in(sheet)


def diagonal(width, sheet):
    """The tuple (left, right) of changes that lead a sheet to the one with the powers of 2 of its rungs."""
    check_width(width)
    check_sheet(sheet)
    return diagonal_sides(width, sheet)


def rungs_on_diagonal(width, sheet):
    """The sheet with as many lists and items that has the powers of 2 of the rungs of a sheet, and else 0 alone."""
    rows = [[0] * len(sheet[0]) for _ in sheet]
    for at, k in enumerate(rungs_at(width, sheet)):
        rows[at][at] = 1 << k
    return rows


def is_change_of(value, size):
    """Whether a value is a change of so many unknowns."""
    return is_change(value) and len(value) == size


def is_diagonal(width, sheet, value):
    """Whether a value is a tuple of changes that lead a sheet to the one with the powers of 2 of its rungs."""
    check_width(width)
    check_sheet(sheet)
    if not isinstance(value, tuple) or len(value) != 2:
        return False
    left, right = value
    if not is_change_of(left, len(sheet)) or not is_change_of(right, len(sheet[0])):
        return False
    led = sheet_between(width, transposed(left), sheet, transposed(right))
    return led == rungs_on_diagonal(width, sheet)


def odd_points(width, word):
    """What the points u * word / 2 ** width of a whole round on add up to, over all odd u by 2 ** width."""
    if width == 0:
        return 1
    half = 1 << (width - 1)
    if word % half != 0:
        return 0
    return half if word % (1 << width) == 0 else -half


def pair_count(width, sheet, word):
    """At how many pairs of a list of words for each side the value of a sheet is a word."""
    check_width(width)
    check_sheet(sheet)
    check_word(width, word)
    steps = rungs_at(width, sheet)
    free = width * (len(sheet) + len(sheet[0]) - len(steps))
    total = 0
    # As with forms, points of the plane tell it: those of u * 2 ** j times the value. Over all words of
    # one side of a rung k they add up to 0, unless the word of the other side is a multiple of
    # 2 ** (width - j - k); then each of them is 1.
    for j in range(width + 1):
        power = free + sum([min(width, j + k) for k in steps])
        total = total + (odd_points(width - j, word) << power)
    return total >> width


def silent(width, sheet):
    """For how many lists of words of the first side the value of a sheet is 0 at all of the second."""
    check_width(width)
    check_sheet(sheet)
    steps = rungs_at(width, sheet)
    return 1 << (sum(steps) + width * (len(sheet) - len(steps)))
