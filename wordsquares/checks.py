"""What whole numbers, widths and words are, and the errors that tell what is none."""

from wordsquares.errors import InvalidNumber, InvalidWidth, InvalidWord, InvalidWords

MOST_UNKNOWNS = 6
GREATEST_WIDTH = 64


def is_whole(value):
    """Whether a value is a whole number."""
    return isinstance(value, int) and not isinstance(value, bool)


def is_count(value):
    """Whether a value is a whole number of at least 0."""
    return is_whole(value) and value >= 0


def is_odd(value):
    """Whether a value is an odd whole number."""
    return is_whole(value) and value % 2 == 1


def is_size(value):
    """Whether a value is a number of unknowns that a form can have."""
    return is_whole(value) and 1 <= value <= MOST_UNKNOWNS


def is_width(value):
    """Whether a value is a width."""
    return is_whole(value) and 1 <= value <= GREATEST_WIDTH


def is_word(width, value):
    """Whether a value is a word of a width."""
    return is_whole(value) and 0 <= value < 1 << width


def are_words(width, value, size):
    """Whether a value is a list of so many words of a width."""
    if not isinstance(value, list) or len(value) != size:
        return False
    return all([is_word(width, item) for item in value])


def check_whole(number):
    """Refuse what is no whole number."""
    if not is_whole(number):
        raise InvalidNumber(number)


def check_width(width):
    """Refuse what is no width."""
    if not is_width(width):
        raise InvalidWidth(width)


def check_size(size):
    """Refuse what is no number of unknowns that a form can have."""
    if not is_size(size):
        raise InvalidNumber(size)


def check_word(width, word):
    """Refuse what is no word of a width."""
    if not is_word(width, word):
        raise InvalidWord(word)


def check_words(width, words, size):
    """Refuse what is no list of so many words of a width."""
    if not are_words(width, words, size):
        raise InvalidWords(words)
