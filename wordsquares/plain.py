"""Plain pieces of forms at a width, and the classes of alike forms there."""

from wordsquares.checks import check_size, check_width, is_count
from wordsquares.errors import InvalidNumber
from wordsquares.forms import check_form
from wordsquares.left import classes_left, most_classes, plain_left
from wordsquares.splits import pieces_at


def plain_at(width, form):
    """The plain pieces of a form at a width."""
    return plain_left(width, pieces_at(width, form), len(form))


def how_many_classes(width, size):
    """How many forms with so many unknowns there are at a width, alike ones taken as one."""
    check_width(width)
    check_size(size)
    return len(classes_left(width, size))


def class_at(width, size, number):
    """The plain pieces of the class with a number."""
    check_width(width)
    check_size(size)
    # What is far too great is refused without going through the classes.
    if not is_count(number) or number >= most_classes(width, size):
        raise InvalidNumber(number)
    classes = classes_left(width, size)
    if number >= len(classes):
        raise InvalidNumber(number)
    return classes[number]


def class_number(width, form):
    """The number of the class of a form."""
    check_width(width)
    check_form(form)
    return classes_left(width, len(form)).index(plain_at(width, form))
