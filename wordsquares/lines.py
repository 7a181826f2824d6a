"""Lines: a width and a form in one string."""

from wordsquares.checks import MOST_UNKNOWNS, check_width, is_width
from wordsquares.errors import InvalidLine
from wordsquares.forms import check_form

FIGURES = "0123456789"
# So many figures are read and written at once: Python refuses to do so with some thousands of them.
BLOCK = 64


def line_of(width, form):
    """The line of a width and a form."""
    check_width(width)
    check_form(form)
    rows = [",".join([text_of(item) for item in row[at:]]) for at, row in enumerate(form)]
    return f"{width}:" + ";".join(rows)


def text_of(number):
    """A whole number in figures."""
    blocks, left = [], abs(number)
    while left >= 10 ** 64:
        left, block = divmod(left, 10 ** 64)
        blocks.append(str(block).zfill(BLOCK))
    blocks.append(str(left))
    return ("-" if number < 0 else "") + "".join(blocks[::-1])


def of_line(line):
    """The tuple (width, form) that has a line."""
    found = read_line(line)
    if found is None:
        raise InvalidLine(line)
    return found


def are_figures(text):
    """Whether a text is a count in figures, without noughts ahead of it."""
    if not text or not all([sign in FIGURES for sign in text]):
        return False
    return text == "0" or text[0] != "0"


def is_item(text):
    """Whether a text is a whole number as it stands in a line."""
    if text.startswith("-"):
        return text != "-0" and are_figures(text[1:])
    return are_figures(text)


def number_in(text):
    """The whole number that stands in a text."""
    figures = text.lstrip("-")
    number = 0
    for sign in figures:
        number = number * 10 + int(sign)
    return -number if text.startswith("-") else number


def are_rows_of_line(rows):
    """Whether lists of texts are those of a form's lists from the diagonal on."""
    if len(rows) > MOST_UNKNOWNS:
        return False
    if not all([len(row) == len(rows) - at for at, row in enumerate(rows)]):
        return False
    return all([is_item(text) for row in rows for text in row])


def read_line(line):
    """The tuple (width, form) that has a line, None for what is none."""
    if not isinstance(line, str):
        return None
    head, _, tail = line.partition(":")
    # A width has two figures at most.
    if not are_figures(head[:3]) or not is_width(int(head[:3])):
        return None
    rows = [text.split(",") for text in tail.split(";")]
    if not are_rows_of_line(rows):
        return None
    size = len(rows)
    items = [[number_in(text) for text in row] for row in rows]
    return int(head), [[items[min(i, j)][abs(j - i)] for j in range(size)] for i in range(size)]
