"""How often words are taken."""

from wordsquares.checks import check_whole, check_width, check_word, is_width
from wordsquares.eighths import all_taken, odd_noughts_often, taken_often, turns_along
from wordsquares.errors import InvalidNumber
from wordsquares.forms import check_form
from wordsquares.told_way import exact_pieces


def turns_of(width, form):
    """The sums of a form at each width up to one."""
    return turns_along(width, exact_pieces(form), len(form))


def how_often(width, form, word):
    """How often a form takes a word at a width."""
    check_width(width)
    check_form(form)
    check_word(width, word)
    return taken_often(turns_of(width, form), width, len(form), word)


def all_counts(width, form):
    """The list of how often a form takes each word of a width."""
    check_width(width)
    check_form(form)
    return all_taken(turns_of(width, form), width, len(form))


def counts_along(form, number, many):
    """The list of how often the word of a whole number is taken at the widths 1, 2, .., many."""
    check_form(form)
    check_whole(number)
    if not is_width(many):
        raise InvalidNumber(many)
    turns = turns_of(many, form)
    return [taken_often(turns, width, len(form), number % (1 << width)) for width in range(1, many + 1)]


def odd_noughts(width, form):
    """At how many lists of words with at least one odd word a form takes 0."""
    check_width(width)
    check_form(form)
    return odd_noughts_often(turns_of(width, form), width, len(form))
