"""Roads from one list of pieces to another one by exchanges."""

from wordsquares.exchanges import exchanged_lists, road_between
from wordsquares.pieces import check_pieces, is_pieces


def exchanged(pieces):
    """The list, in order, of all lists of pieces that one exchange makes of a list, but this list itself."""
    check_pieces(pieces)
    return exchanged_lists(pieces)


def road(one, other):
    """A shortest road from one list of pieces to another one, None if there is none."""
    check_pieces(one)
    check_pieces(other)
    return road_between(one, other)


def is_road(one, other, value):
    """Whether a value is a road from one list of pieces to another one, shortest or not."""
    check_pieces(one)
    check_pieces(other)
    if not isinstance(value, list) or not value or not all([is_pieces(item) for item in value]):
        return False
    if value[0] != one or value[-1] != other:
        return False
    return all([some in exchanged_lists(ahead) for ahead, some in zip(value, value[1:])])
