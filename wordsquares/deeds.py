"""Deeds: what can be done with the width and the form that a book keeps."""

from wordsquares.checks import MOST_UNKNOWNS, is_count, is_width
from wordsquares.forms import beside, changed, is_change, is_form
from wordsquares.pieces import rows_of_sum
from wordsquares.plain import plain_at
from wordsquares.told_way import block_of


def are_places(size, value):
    """Whether a value is an ascending list, not empty, of numbers of unknowns."""
    if not isinstance(value, list) or not value:
        return False
    if not all([is_count(item) and item < size for item in value]):
        return False
    return all([low < high for low, high in zip(value, value[1:])])


def can_be_done(form, value):
    """Whether a value is a deed that can be done with a form."""
    if not isinstance(value, tuple) or not 1 <= len(value) <= 2:
        return False
    if len(value) == 1:
        return value[0] == "plain"
    name, what = value
    if name == "change":
        return is_change(what) and len(what) == len(form)
    if name == "beside":
        return is_form(what) and len(form) + len(what) <= MOST_UNKNOWNS
    if name == "only":
        return are_places(len(form), what)
    return name == "width" and is_width(what)


def after_deed(width, form, deed):
    """The tuple (width, form) that a deed makes of a width and a form."""
    name = deed[0]
    if name == "change":
        return width, changed(form, deed[1])
    if name == "beside":
        return width, beside(form, deed[1])
    if name == "only":
        return width, block_of(form, deed[1])
    if name == "width":
        return deed[1], form
    return width, rows_of_sum(plain_at(width, form), len(form))


def copied(value):
    """A value with new lists in the place of all of its lists."""
    return [copied(item) for item in value] if isinstance(value, list) else value


def copied_deed(deed):
    """A deed with new lists in the place of all of its lists."""
    return tuple([copied(item) for item in deed])
