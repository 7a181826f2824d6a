"""The document's interface: modules, names and arguments, and calls that answer."""

from wordsquares import (
    alike, alternating, book, counts, forms, kept, leading, lines, parting, parts, pieces, plain, relations, roads, sheets,
    splits, symbols, taken, turns,
)

INTERFACE = {
    "wordsquares.forms": {
        "is_form": "value", "value_at": "width form words", "table_of": "width form",
        "parting_words": "width one other", "beside": "one other", "is_change": "value",
        "determinant": "rows", "changed": "form change", "moved": "width change words",
        "joined": "one other", "undone": "width change",
    },
    "wordsquares.pieces": {
        "is_pieces": "value", "unknowns_of": "pieces", "sum_of": "pieces size", "cut": "width pieces",
        "times": "pieces number", "together": "one other",
    },
    "wordsquares.splits": {
        "pieces_at": "width form", "split": "width form", "is_split": "width form value",
        "pieces_of": "form", "scales_of": "form", "fewest_twos": "form",
    },
    "wordsquares.symbols": {
        "signs_of": "pieces", "chains_of": "pieces", "ways_of": "pieces", "symbol_of": "pieces size",
        "symbol": "form", "is_symbol": "value", "pieces_of_symbol": "value", "plain_pieces": "form",
    },
    "wordsquares.plain": {
        "plain_at": "width form", "how_many_classes": "width size", "class_at": "width size number",
        "class_number": "width form",
    },
    "wordsquares.alike": {
        "are_alike": "one other", "alike_at": "width one other", "parting_width": "one other",
        "grouped": "forms", "grouped_at": "width forms",
    },
    "wordsquares.parting": {
        "parting_sign": "one other", "parting_word": "one other", "is_parting_word": "one other value",
        "equal_counts": "width one other", "low_scales": "width form",
    },
    "wordsquares.relations": {
        "squares_turned": "low one high other number", "square_beside_pair": "low one high kind",
        "pair_beside_square": "low kind high one", "pairs_turned": "scale",
    },
    "wordsquares.roads": {
        "exchanged": "pieces", "road": "one other", "is_road": "one other value",
    },
    "wordsquares.leading": {
        "change_of_steps": "width size steps", "steps_of": "width change",
        "is_leading": "width one other value", "leading_change": "width one other",
        "plain_change": "width form", "all_leading": "width one other",
    },
    "wordsquares.counts": {
        "how_often": "width form word", "all_counts": "width form", "counts_along": "form number many",
        "odd_noughts": "width form",
    },
    "wordsquares.taken": {
        "takes": "width form word", "lacking": "width form", "lacking_width": "form number",
        "takes_all": "form", "first_lacking": "form", "odd_nought_width": "form",
    },
    "wordsquares.turns": {
        "turn_sum": "width form times", "piece_turn": "width piece times", "turn_table": "width form",
        "taken_by_turns": "width form", "turns_part": "one other", "halves_at": "width form", "zero_widths": "form",
    },
    "wordsquares.parts": {
        "is_part": "form part", "rests": "form part", "is_sure": "form part", "pieces_in": "form",
        "parts_of": "form size", "common_parts": "one other",
    },
    "wordsquares.kept": {
        "how_many_changes": "width size", "how_many_tables": "width size", "how_many_keep": "width form",
        "how_many_alike": "width form", "keeping": "width form", "is_keeping": "width form value",
        "settled_width": "form", "kept_from": "form", "shares": "form",
    },
    "wordsquares.sheets": {
        "rungs": "width sheet", "are_like": "width one other", "rungs_everywhere": "sheet", "diagonal": "width sheet",
        "is_diagonal": "width sheet value", "pair_count": "width sheet word", "silent": "width sheet",
    },
    "wordsquares.alternating": {
        "is_alternating": "width value", "pair_rungs": "width sheet", "paired": "width sheet",
        "is_paired": "width sheet value",
    },
    "wordsquares.lines": {"line_of": "width form", "of_line": "line"},
    "wordsquares.book": {"is_deed": "book value"},
}

# The class of the interface, with the arguments of its making and of its methods.
BOOK_ARGUMENTS = "width form"
BOOK_METHODS = {
    "width": "", "form": "", "do": "deed", "undo": "", "redo": "", "log": "", "copy": "", "value": "words", "pieces": "",
    "alike": "other",
}


def calls():
    """The list of the tuples (function, arguments, result), made anew each time."""
    return (
        calls_of_pieces() + calls_of_symbols() + calls_of_alike_forms() + calls_of_changes() + calls_of_counts()
        + calls_of_turns() + calls_of_parts() + calls_of_kept_forms() + calls_of_sheets() + calls_of_lines_and_books()
    )


def calls_of_pieces():
    form, change = [[1, 2], [2, 5]], [[1, 3], [0, -1]]
    return [
        (forms.is_form, {"value": form}, True),
        (forms.value_at, {"width": 3, "form": form, "words": [7, 2]}, 5),
        (forms.table_of, {"width": 2, "form": [[5, 3], [3, -2]]}, [[1, 1], [1, 2]]),
        (forms.parting_words, {"width": 3, "one": form, "other": [[1, 4], [4, 5]]}, [1, 1]),
        (forms.beside, {"one": form, "other": [[3]]}, [[1, 2, 0], [2, 5, 0], [0, 0, 3]]),
        (forms.is_change, {"value": change}, True),
        (forms.determinant, {"rows": change}, -1),
        (forms.changed, {"form": form, "change": change}, [[1, 1], [1, 2]]),
        (forms.moved, {"width": 3, "change": change, "words": [7, 2]}, [5, 6]),
        (forms.joined, {"one": change, "other": [[1, 1], [0, 1]]}, [[1, 4], [0, -1]]),
        (forms.undone, {"width": 3, "change": change}, [[1, 3], [0, 7]]),
        (pieces.is_pieces, {"value": [(0, 1), (0, 2)]}, True),
        (pieces.unknowns_of, {"pieces": [(0, 1), (0, 2)]}, 3),
        (pieces.sum_of, {"pieces": [(1, 3)], "size": 2}, [[6, 0], [0, 0]]),
        (pieces.cut, {"width": 2, "pieces": [(0, 5), (1, 0), (1, 7)]}, [(0, 1), (1, 1)]),
        (pieces.times, {"pieces": [(0, 0), (1, 3)], "number": -12}, [(2, 0), (3, 7)]),
        (pieces.together, {"one": [(0, 1), (2, 2)], "other": [(0, 0)]}, [(0, 0), (0, 1), (2, 2)]),
        (splits.pieces_at, {"width": 5, "form": form}, [(0, 1), (0, 1)]),
        (splits.split, {"width": 3, "form": form}, ([(0, 1), (0, 1)], [[1, 6], [0, 1]])),
        (splits.is_split, {"width": 3, "form": form, "value": ([(0, 1), (0, 1)], [[1, 6], [0, 1]])}, True),
        (splits.pieces_of, {"form": [[6, 3], [3, 10]]}, [(0, 2)]),
        (splits.scales_of, {"form": [[4, 2, 0], [2, 6, 4], [0, 4, 12]]}, [(1, 2, True), (2, 1, True)]),
        (splits.fewest_twos, {"form": [[0, 2], [2, 0]]}, 2),
    ]


def calls_of_symbols():
    some = [(0, 3), (1, 5), (3, 7)]
    value = ([(0, 1, True, 1), (1, 1, True, 1), (3, 1, True, 1)], [(0, 4), (3, 7)], 1)
    return [
        (symbols.signs_of, {"pieces": some}, [(0, 1, True, -1), (1, 1, True, -1), (3, 1, True, 1)]),
        (symbols.chains_of, {"pieces": some}, [(0, 0), (3, 7)]),
        (symbols.ways_of, {"pieces": [(0, 0), (1, 2), (3, 0)]}, [(0, 0), (1, 1), (3, 3)]),
        (symbols.symbol_of, {"pieces": some, "size": 4}, value),
        (symbols.symbol, {"form": [[0, 1], [1, 0]]}, ([(0, 2, False, 1)], [], 0)),
        (symbols.is_symbol, {"value": value}, True),
        (symbols.pieces_of_symbol, {"value": value}, [(0, 3), (1, 1), (3, 3)]),
        (symbols.plain_pieces, {"form": [[2, 1, 0], [1, 2, 0], [0, 0, 6]]}, [(0, 0), (1, 7)]),
        (plain.plain_at, {"width": 3, "form": [[3, 0, 0], [0, 10, 0], [0, 0, 56]]}, [(0, 3), (1, 1)]),
        (plain.how_many_classes, {"width": 2, "size": 3}, 16),
        (plain.class_at, {"width": 2, "size": 2, "number": 4}, [(0, 1), (0, 3)]),
        (plain.class_number, {"width": 2, "form": [[3, 0], [0, 1]]}, 4),
    ]


def calls_of_alike_forms():
    two, three, pair = [[1, 0], [0, 1]], [[3, 0], [0, 3]], [[0, 1], [1, 0]]
    return [
        (alike.are_alike, {"one": two, "other": [[5, 0], [0, 5]]}, True),
        (alike.alike_at, {"width": 2, "one": two, "other": three}, False),
        (alike.parting_width, {"one": two, "other": three}, 2),
        (alike.grouped, {"forms": [two, pair, [[5, 0], [0, 5]], [[2, 1], [1, 2]]]}, [[0, 2], [1], [3]]),
        (alike.grouped_at, {"width": 1, "forms": [two, pair, three, [[2, 1], [1, 2]]]}, [[0, 2], [1, 3]]),
        (parting.parting_sign, {"one": two, "other": three}, ("sum", 0, 2, 6)),
        (parting.parting_word, {"one": two, "other": pair}, (1, 0, 2, 4)),
        (parting.is_parting_word, {"one": two, "other": pair, "value": (1, 1, 2, 0)}, True),
        (parting.equal_counts, {"width": 2, "one": two, "other": three}, False),
        (parting.low_scales, {"width": 4, "form": [[1, 2], [2, 6]]}, [(0, 1), (1, 1)]),
    ]


def calls_of_changes():
    low, high, turned = [[1, 0], [0, 2]], [[3, 0], [0, 6]], [[1, -2], [1, 1]]
    one, other = [(0, 1), (1, 1)], [(0, 3), (1, 3)]
    return [
        (relations.squares_turned, {"low": 0, "one": 1, "high": 1, "other": 1, "number": 1}, (turned, 3, 3)),
        (relations.square_beside_pair, {"low": 0, "one": 1, "high": 1, "kind": 0},
         ([[1, -2, -2], [1, 1, 0], [1, 0, 1]], [[5, 0, 0], [0, 4, 6], [0, 6, 4]])),
        (relations.pair_beside_square, {"low": 0, "kind": 0, "high": 1, "one": 1},
         ([[1, 0, -2], [0, 1, -2], [1, 1, 1]], [[2, 3, 0], [3, 2, 0], [0, 0, 10]])),
        (relations.pairs_turned, {"scale": 1},
         ([[1, 0, -2, 0], [0, 1, 1, 0], [1, 0, 0, 1], [0, 0, 3, -2]],
          [[8, 2, 0, 0], [2, 4, 0, 0], [0, 0, 48, -18], [0, 0, -18, 12]])),
        (roads.exchanged, {"pieces": [(0, 0), (1, 1)]}, [[(0, 2), (1, 5)]]),
        (roads.road, {"one": one, "other": other}, [one[:], other[:]]),
        (roads.is_road, {"one": one, "other": other, "value": [one[:], other[:]]}, True),
        (leading.change_of_steps, {"width": 3, "size": 2, "steps": [("add", 0, 1, 2), ("times", 1, 3)]}, [[1, 6], [0, 3]]),
        (leading.steps_of, {"width": 3, "change": [[3, 0], [8, 1]]}, [("times", 0, 3)]),
        (leading.is_leading, {"width": 9, "one": low, "other": high, "value": turned}, True),
        (leading.leading_change, {"width": 3, "one": low, "other": high}, [[3, 6], [7, 1]]),
        (leading.plain_change, {"width": 3, "form": high}, ([(0, 1), (1, 1)], [[1, 2], [1, 3]])),
        (leading.all_leading, {"width": 3, "one": [[1]], "other": [[9]]}, [[[1]], [[3]], [[5]], [[7]]]),
    ]


def calls_of_counts():
    return [
        (counts.how_often, {"width": 3, "form": [[1]], "word": 4}, 2),
        (counts.all_counts, {"width": 2, "form": [[1, 0], [0, 1]]}, [4, 8, 4, 0]),
        (counts.counts_along, {"form": [[1]], "number": 4, "many": 6}, [1, 2, 2, 4, 8, 8]),
        (counts.odd_noughts, {"width": 3, "form": [[0, 1], [1, 0]]}, 16),
    ]


def calls_of_turns():
    three, pair = [[1, 0, 0], [0, 1, 0], [0, 0, 1]], [[0, 1], [1, 0]]
    return [
        (taken.takes, {"width": 3, "form": three, "word": 7}, False),
        (taken.lacking, {"width": 5, "form": three}, [(0, 7), (2, 7)]),
        (taken.lacking_width, {"form": three, "number": 28}, 5),
        (taken.takes_all, {"form": three}, False),
        (taken.first_lacking, {"form": three}, (3, 7)),
        (taken.odd_nought_width, {"form": [[1, 0], [0, 1]]}, 2),
        (turns.turn_sum, {"width": 3, "form": [[1, 0], [0, 0]], "times": 1}, (1, 10)),
        (turns.piece_turn, {"width": 64, "piece": (0, 2), "times": 3}, (4, 130)),
        (turns.turn_table, {"width": 2, "form": [[1]]}, [[None, None, None, None], [(1, 3), (7, 3), (1, 3), (7, 3)]]),
        (turns.taken_by_turns, {"width": 2, "form": [[1, 0], [0, 1]]}, [4, 8, 4, 0]),
        (turns.turns_part, {"one": pair, "other": [[2, 1], [1, 2]]}, (2, 1)),
        (turns.halves_at, {"width": 3, "form": [[1, 0], [0, 4]]}, 10),
        (turns.zero_widths, {"form": [[1, 0], [0, 4]]}, [1, 3]),
    ]


def calls_of_parts():
    mixed, two = [[0, 1, 0], [1, 0, 0], [0, 0, 1]], [[1, 0], [0, 2]]
    return [
        (parts.is_part, {"form": mixed, "part": [[1]]}, True),
        (parts.rests, {"form": mixed, "part": [[1]]}, [[(0, 0)], [(0, 1), (0, 7)]]),
        (parts.is_sure, {"form": mixed, "part": [[1]]}, False),
        (parts.pieces_in, {"form": two}, [(0, 1), (0, 3), (1, 1), (1, 3)]),
        (parts.parts_of, {"form": two, "size": 1}, [[(0, 1)], [(0, 3)], [(1, 1)], [(1, 3)]]),
        (parts.common_parts, {"one": two, "other": [[3, 0], [0, 3]]}, [[(0, 3)]]),
    ]


def calls_of_kept_forms():
    two, pair = [[1, 0], [0, 1]], [[0, 1], [1, 0]]
    return [
        (kept.how_many_changes, {"width": 2, "size": 3}, 86016),
        (kept.how_many_tables, {"width": 3, "size": 2}, 256),
        (kept.how_many_keep, {"width": 3, "form": two}, 128),
        (kept.how_many_alike, {"width": 3, "form": two}, 12),
        (kept.keeping, {"width": 1, "form": two}, [[[0, 1], [1, 0]], [[1, 0], [0, 1]]]),
        (kept.is_keeping, {"width": 3, "form": two, "value": [[0, 9], [-1, 0]]}, True),
        (kept.settled_width, {"form": [[4]]}, 5),
        (kept.kept_from, {"form": [[1, 0], [0, 2]]}, (4, 512)),
        (kept.shares, {"form": pair}, [(-1, 1, 1), (0, 1, 1), (1, 1, 1)]),
    ]


def calls_of_sheets():
    sheet, turned = [[2, 4], [6, 0]], [[0, 6], [2, 0]]
    return [
        (sheets.rungs, {"width": 3, "sheet": sheet}, [1, 2]),
        (sheets.are_like, {"width": 2, "one": sheet, "other": [[0, 2], [0, 0]]}, True),
        (sheets.rungs_everywhere, {"sheet": [[1, 2, 3], [4, 5, 6]]}, [0, 0]),
        (sheets.diagonal, {"width": 1, "sheet": [[0, 1]]}, ([[1]], [[0, 1], [1, 0]])),
        (sheets.is_diagonal, {"width": 1, "sheet": [[0, 1]], "value": ([[1]], [[0, 1], [1, 0]])}, True),
        (sheets.pair_count, {"width": 2, "sheet": [[2]], "word": 2}, 4),
        (sheets.silent, {"width": 3, "sheet": sheet}, 8),
        (alternating.is_alternating, {"width": 2, "value": [[0, 1], [3, 0]]}, True),
        (alternating.pair_rungs, {"width": 3, "sheet": [[0, 2], [6, 0]]}, [1]),
        (alternating.paired, {"width": 3, "sheet": turned}, [[1, 0], [0, 3]]),
        (alternating.is_paired, {"width": 3, "sheet": turned, "value": [[1, 0], [0, 3]]}, True),
    ]


def calls_of_lines_and_books():
    return [
        (lines.line_of, {"width": 3, "form": [[1, 2], [2, 5]]}, "3:1,2;5"),
        (lines.of_line, {"line": "5:0,0,-1;2,0;9"}, (5, [[0, 0, -1], [0, 2, 0], [-1, 0, 9]])),
        (book.is_deed, {"book": book.FormBook(3, [[1, 2], [2, 5]]), "value": ("change", [[1, 3], [0, -1]])}, True),
    ]
