"""The landed part of the document's interface: modules, names and arguments, and calls that answer.

A later module adds its row to INTERFACE, and a call of each of its functions to CALLS.
"""

from wordsquares import forms, pieces, splits

INTERFACE = {
    "wordsquares.forms": {
        "is_form": "value", "value_at": "width form words", "table_of": "width form",
        "parting_words": "width one other", "beside": "one other", "is_change": "value",
        "determinant": "rows", "changed": "form change", "moved": "width change words",
        "joined": "one other", "undone": "width change",
    },
    "wordsquares.pieces": {
        "is_pieces": "value", "unknowns_of": "pieces", "sum_of": "pieces size", "cut": "width pieces",
        "times": "pieces number", "together": "one other",
    },
    "wordsquares.splits": {
        "pieces_at": "width form", "split": "width form", "is_split": "width form value",
        "pieces_of": "form", "scales_of": "form", "fewest_twos": "form",
    },
}


def calls():
    """The list of the tuples (function, arguments, result), made anew each time."""
    form, change = [[1, 2], [2, 5]], [[1, 3], [0, -1]]
    return [
        (forms.is_form, {"value": form}, True),
        (forms.value_at, {"width": 3, "form": form, "words": [7, 2]}, 5),
        (forms.table_of, {"width": 2, "form": [[5, 3], [3, -2]]}, [[1, 1], [1, 2]]),
        (forms.parting_words, {"width": 3, "one": form, "other": [[1, 4], [4, 5]]}, [1, 1]),
        (forms.beside, {"one": form, "other": [[3]]}, [[1, 2, 0], [2, 5, 0], [0, 0, 3]]),
        (forms.is_change, {"value": change}, True),
        (forms.determinant, {"rows": change}, -1),
        (forms.changed, {"form": form, "change": change}, [[1, 1], [1, 2]]),
        (forms.moved, {"width": 3, "change": change, "words": [7, 2]}, [5, 6]),
        (forms.joined, {"one": change, "other": [[1, 1], [0, 1]]}, [[1, 4], [0, -1]]),
        (forms.undone, {"width": 3, "change": change}, [[1, 3], [0, 7]]),
        (pieces.is_pieces, {"value": [(0, 1), (0, 2)]}, True),
        (pieces.unknowns_of, {"pieces": [(0, 1), (0, 2)]}, 3),
        (pieces.sum_of, {"pieces": [(1, 3)], "size": 2}, [[6, 0], [0, 0]]),
        (pieces.cut, {"width": 2, "pieces": [(0, 5), (1, 0), (1, 7)]}, [(0, 1), (1, 1)]),
        (pieces.times, {"pieces": [(0, 0), (1, 3)], "number": -12}, [(2, 0), (3, 7)]),
        (pieces.together, {"one": [(0, 1), (2, 2)], "other": [(0, 0)]}, [(0, 0), (0, 1), (2, 2)]),
        (splits.pieces_at, {"width": 5, "form": form}, [(0, 1), (0, 1)]),
        (splits.split, {"width": 3, "form": form}, ([(0, 1), (0, 1)], [[1, 6], [0, 1]])),
        (splits.is_split, {"width": 3, "form": form, "value": ([(0, 1), (0, 1)], [[1, 6], [0, 1]])}, True),
        (splits.pieces_of, {"form": [[6, 3], [3, 10]]}, [(0, 2)]),
        (splits.scales_of, {"form": [[4, 2, 0], [2, 6, 4], [0, 4, 12]]}, [(1, 2, True), (2, 1, True)]),
        (splits.fewest_twos, {"form": [[0, 2], [2, 0]]}, 2),
    ]
