"""Steps: the simple changes of which every change is a product."""

from wordsquares.checks import is_count, is_odd, is_word
from wordsquares.rows import unit_rows
from wordsquares.twos import odd_inverse


def is_place(size, value):
    """Whether a value is the number of one of so many unknowns."""
    return is_count(value) and value < size


def is_step(width, size, value):
    """Whether a value is a step of so many unknowns at a width."""
    if not isinstance(value, tuple) or len(value) < 3 or not is_place(size, value[1]):
        return False
    if not is_word(width, value[-1]):
        return False
    if len(value) == 3:
        return value[0] == "times" and is_odd(value[2])
    return len(value) == 4 and value[0] == "add" and is_place(size, value[2]) and value[1] != value[2]


def are_steps(width, size, value):
    """Whether a value is a list of steps of so many unknowns at a width."""
    return isinstance(value, list) and all([is_step(width, size, item) for item in value])


def product_of_steps(width, size, steps):
    """The change for which a list of steps stands."""
    rows = unit_rows(size)
    for step in steps:
        # Multiplied to the right, a step changes one place of each list.
        place, word = step[-2], step[-1]
        for row in rows:
            ahead = row[place] + row[step[1]] * word if step[0] == "add" else row[place] * word
            row[place] = ahead % (1 << width)
    return rows


def steps_for(width, rows):
    """A list of steps that stands for a change, by 2 ** width."""
    left = [[item % (1 << width) for item in row] for row in rows]
    steps = []
    # The rows are led to those that change nothing, by at most n + 1 steps for each place; each of them
    # is told turned around, as the product of these is the change.
    for place in range(len(left)):
        if left[place][place] % 2 == 0:
            odd = [at for at in range(place, len(left)) if left[at][place] % 2 == 1]
            steps.append(row_added(width, left, place, odd[0], 1))
        steps.extend(row_divided(width, left, place))
        for at in range(len(left)):
            if at != place and left[at][place] != 0:
                steps.append(row_added(width, left, at, place, -left[at][place]))
    return steps


def row_added(width, rows, at, other, times):
    """Add a row some times to the one in a place, and tell the step that undoes it."""
    rows[at] = [(item + times * more) % (1 << width) for item, more in zip(rows[at], rows[other])]
    return ("add", at, other, -times % (1 << width))


def row_divided(width, rows, place):
    """Divide the row in a place by its odd item there, and tell the list of the steps that undo it."""
    odd = rows[place][place]
    if odd == 1:
        return []
    inverse = odd_inverse(width, odd)
    rows[place] = [item * inverse % (1 << width) for item in rows[place]]
    return [("times", place, odd)]
