"""Written changes that lead the sum of two pieces to another sum, exactly."""

from wordsquares.checks import is_count, is_odd, is_whole
from wordsquares.errors import InvalidNumber
from wordsquares.forms import beside
from wordsquares.pieces import rows_of_sum
from wordsquares.rows import changed_rows, transposed

GREATEST_SCALE = 64


def is_scale(value):
    """Whether a value is a scale that a written change is told for."""
    return is_count(value) and value <= GREATEST_SCALE


def check_scale(value):
    """Refuse what is no scale."""
    if not is_scale(value):
        raise InvalidNumber(value)


def check_odd(value):
    """Refuse what is no odd whole number."""
    if not is_odd(value):
        raise InvalidNumber(value)


def check_pair_kind(value):
    """Refuse what is no kind of a pair."""
    if not is_whole(value) or value not in (0, 2):
        raise InvalidNumber(value)


def squares_turned(low, one, high, other, number):
    """The tuple (change, A, B) of a change of two squares and of the odd numbers to which it leads."""
    check_scale(low)
    check_odd(one)
    if not is_scale(high) or high < low:
        raise InvalidNumber(high)
    check_odd(other)
    if not is_whole(number) or high == low and number % 2 == 1:
        raise InvalidNumber(number)
    more = (other * number) << (high - low)
    first = one + more * number
    return [[1, -more], [number, one]], first, one * other * first


def led_by_columns(form, columns):
    """The tuple (change, form) of the change that has these columns, and of the form to which it leads."""
    change = transposed(columns)
    return change, changed_rows(form, change)


def square_beside_pair(low, one, high, kind):
    """The tuple (change, form) of a change of a square and a pair behind it, not of a lesser scale."""
    check_scale(low)
    check_odd(one)
    if not is_scale(high) or high < low:
        raise InvalidNumber(high)
    check_pair_kind(kind)
    less = -1 << (high - low)
    columns = [[1, 1, 1], [less, one, 0], [less, 0, one]]
    if kind == 2:
        columns = [[1, 1, 0], [less, 0, one], [2 * less, one, 0]]
    return led_by_columns(beside([[one << low]], rows_of_sum([(high, kind)], 2)), columns)


def pair_beside_square(low, kind, high, one):
    """The tuple (change, form) of a change of a pair and a square behind it, of a greater scale."""
    check_scale(low)
    check_pair_kind(kind)
    if not is_scale(high) or high <= low:
        raise InvalidNumber(high)
    check_odd(one)
    less = -one << (high - low)
    columns = [[1, 0, 1], [0, 1, 1], [less, less, 1 if kind == 0 else 3]]
    return led_by_columns(beside(rows_of_sum([(low, kind)], 2), [[one << high]]), columns)


def pairs_turned(scale):
    """The tuple (change, form) of a change of two pairs of the kind 2 of one scale."""
    check_scale(scale)
    columns = [[1, 0, 1, 0], [0, 1, 0, 0], [-2, 1, 0, 3], [0, 0, 1, -2]]
    return led_by_columns(rows_of_sum([(scale, 2), (scale, 2)], 4), columns)
