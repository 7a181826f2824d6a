"""Point 3: all functions answer up to the limits within seconds."""

import time
import unittest

from tests.helpers import Numbers, two_sums
from wordsquares import (
    alike, alternating, book, counts, forms, kept, leading, lines, parting, parts, pieces, plain, relations, roads, sheets,
    splits, symbols, taken, turns,
)

GREAT = 10 ** 30 - 1
SECONDS = 5


class Limits(unittest.TestCase):

    def setUp(self):
        self.began = time.monotonic()

    def tearDown(self):
        self.assertLess(time.monotonic() - self.began, SECONDS)

    def great_rows(self, seed):
        numbers = Numbers(seed)
        form = [[0] * 6 for _ in range(6)]
        for i in range(6):
            for j in range(i, 6):
                form[i][j] = form[j][i] = numbers.between(-GREAT, GREAT)
        change = [[2 * numbers.between(-GREAT // 2, GREAT // 2) + int(i <= j) for j in range(6)] for i in range(6)]
        return form, change, numbers

    def test_forms_and_changes(self):
        for seed in range(10):
            form, change, numbers = self.great_rows(seed)
            words = numbers.words(64, 6)
            self.assertTrue(forms.is_form(form) and forms.is_change(change))
            self.assertEqual(forms.determinant(change) % 2, 1)
            other = forms.changed(form, change)
            there = forms.moved(64, change, words)
            self.assertEqual(forms.value_at(64, other, words), forms.value_at(64, form, there))
            self.assertEqual(forms.moved(64, forms.undone(64, change), there), words)
            self.assertIsNotNone(forms.parting_words(64, form, other))
            self.assertIsNone(forms.parting_words(64, form, forms.table_of(64, form)))
            self.assertEqual(forms.changed(other, change), forms.changed(form, forms.joined(change, change)))
            self.assertEqual(len(forms.beside([[GREAT]], [[-GREAT]])), 2)

    def test_pieces(self):
        for some in ([(1000, 7)] * 6, [(1000, 0), (1000, 0), (1000, 2)], [(0, 1), (999, 2), (1000, 0), (1000, 3)]):
            form = pieces.sum_of(some, 6)
            self.assertEqual(splits.pieces_of(form), some)
            self.assertEqual(pieces.cut(64, some), [piece for piece in some if piece[0] < 64])
            self.assertEqual(pieces.unknowns_of(pieces.times(some, -GREAT)), pieces.unknowns_of(some))
            self.assertEqual(pieces.together(some, []), some)

    def test_splits(self):
        for seed in range(10):
            form, change, _ = self.great_rows(seed)
            self.assertTrue(splits.is_split(64, form, splits.split(64, form)))
            self.assertEqual(splits.split(64, form)[0], splits.pieces_at(64, form))
            self.assertEqual(splits.scales_of(form), splits.scales_of(forms.changed(form, change)))
            self.assertIsNotNone(splits.fewest_twos(form))

    def great_pieces(self):
        """Pieces of six unknowns of which many others have the scales, and scales up to 1,000."""
        for scales in (range(6), range(0, 12, 2), range(0, 18, 3), (0, 0, 1, 1, 2, 2), (0,) * 6, (0, 0, 0, 2, 4, 5)):
            for more in (0, 58 - scales[-1], 1000 - scales[-1]):
                yield [(k + more, 7) for k in scales], [(k + more, 1) for k in scales]
        for scales in ((0, 1, 2), (0, 0, 0), (0, 2, 4)):
            for more in (0, 1000 - scales[-1]):
                yield [(k + more, 2) for k in scales], [(k + more, 0) for k in scales]

    def test_symbols(self):
        for one, other in self.great_pieces():
            value = symbols.symbol_of(one, 6)
            self.assertTrue(symbols.is_symbol(value))
            self.assertLessEqual(symbols.pieces_of_symbol(value), one)
            self.assertEqual(symbols.symbol(pieces.sum_of(one, 6)), value)
            scales, chains, noughts = value
            self.assertFalse(symbols.is_symbol((scales, [(k, (total + 1) % 8) for k, total in chains] or [(0, 1)], noughts)))
            self.assertEqual(pieces.unknowns_of(symbols.plain_pieces(pieces.sum_of(other, 6))), 6)

    def test_plain_pieces(self):
        for one, _ in self.great_pieces():
            for width in (1, 5, 6, 7, 12, 61, 64):
                plain.plain_at(width, pieces.sum_of(one, 6))
        for seed in range(10):
            form, _, _ = self.great_rows(seed)
            plain.plain_at(64, form)
        for size in (1, 2, 3):
            for width in (1, 2, 3, 4):
                many = plain.how_many_classes(width, size)
                self.assertEqual(plain.class_number(width, pieces.sum_of(plain.class_at(width, size, many - 1), size)), many - 1)
        self.assertEqual(plain.how_many_classes(64, 1), 252)
        self.assertEqual(plain.class_number(64, [[-7 << 60]]), 240 + 1)

    def test_alike_and_parting(self):
        for one, other in list(self.great_pieces()) + [([(58, 1)] * 6, [(58, 5)] * 6)]:
            low, high = pieces.sum_of(one, 6), pieces.sum_of(other, 6)
            self.assertEqual(alike.are_alike(low, high), alike.parting_width(low, high) is None)
            self.assertEqual(alike.are_alike(low, high), parting.parting_sign(low, high) is None)
            alike.alike_at(64, low, high)
            parting.equal_counts(64, low, high)
            parting.low_scales(64, low)
            found = parting.parting_word(low, high)
            if found is not None and found[0] <= 64:
                self.assertTrue(parting.is_parting_word(low, high, found))
        some = [pieces.sum_of(one, 6) for both in self.great_pieces() for one in both]
        alike.grouped(some)
        alike.grouped_at(64, some)
        for one, other in two_sums(60, 1, 58):
            alike.parting_width(one, other)
            parting.parting_word(one, other)

    def test_counts(self):
        for seed in range(4):
            form, _, numbers = self.great_rows(seed)
            for word in (0, 1, 2 ** 63, numbers.below(2 ** 64)):
                counts.how_often(64, form, word)
            counts.odd_noughts(64, form)
            self.assertEqual(len(counts.counts_along(form, -GREAT, 64)), 64)
            self.assertEqual(sum(counts.all_counts(10, form)), 2 ** 60)
        for one, _ in self.great_pieces():
            counts.how_often(64, pieces.sum_of(one, 6), 0)
            counts.counts_along(pieces.sum_of(one, 6), 0, 64)

    def test_relations(self):
        for low in (0, 32, 64):
            relations.squares_turned(low, GREAT, 64, -GREAT, GREAT - 1)
            relations.square_beside_pair(low, -GREAT, 64, 2)
            relations.pairs_turned(low)
        relations.pair_beside_square(0, 2, 64, GREAT)

    def test_roads(self):
        for one, other in self.great_pieces():
            first = symbols.pieces_of_symbol(symbols.symbol_of(one, 6))
            self.assertTrue(roads.is_road(one, first, roads.road(one, first)))
            self.assertEqual(roads.road(one, other) is None, symbols.symbol_of(one, 6) != symbols.symbol_of(other, 6))
            roads.exchanged(one)

    def test_leading(self):
        for seed in range(10):
            form, change, _ = self.great_rows(seed)
            self.assertLessEqual(len(leading.steps_of(64, change)), 42)
            self.assertEqual(leading.plain_change(64, form)[0], plain.plain_at(64, form))
            other = forms.changed(form, change)
            self.assertTrue(leading.is_leading(64, form, other, leading.leading_change(64, form, other)))
        for one, _ in self.great_pieces():
            leading.plain_change(64, pieces.sum_of(one, 6))
            leading.plain_change(7, pieces.sum_of(one, 6))
        self.assertEqual(len(leading.all_leading(3, [[0, 0], [0, 0]], [[8, 4], [4, 0]])), 1536)

    def test_taken(self):
        great = [self.great_rows(seed)[0] for seed in range(6)] + [pieces.sum_of(one, 6) for one, _ in self.great_pieces()]
        for form in great + [[[2 ** 99]], [[2 ** 99, 0], [0, 3 * 2 ** 98]], [[GREAT] * 6] * 6]:
            self.assertIs(taken.takes(64, form, 0), True)
            for word in (1, 2 ** 63, 2 ** 64 - 1):
                self.assertIs(taken.takes(64, form, word), counts.how_often(64, form, word) > 0)
            taken.lacking(64, form)
            for number in (GREAT, -GREAT, 2 ** 99, -3 * 2 ** 98, 0):
                taken.lacking_width(form, number)
            self.assertIs(taken.takes_all(form), taken.first_lacking(form) is None)
            taken.odd_nought_width(form)

    def test_turns(self):
        for one, other in self.great_pieces():
            low, high = pieces.sum_of(one, 6), pieces.sum_of(other, 6)
            self.assertIs(turns.turns_part(low, high) is None, parting.parting_word(low, high) is None)
            self.assertEqual(len(turns.turn_table(64, low)), 64)
            turns.zero_widths(high)
        for seed in range(4):
            form, change, _ = self.great_rows(seed)
            for times in (GREAT, -GREAT, 2 ** 99, 0):
                turns.turn_sum(64, form, times)
                turns.piece_turn(64, (1000, 2), times)
                turns.piece_turn(64, (0, 7), times)
            self.assertIsNone(turns.turns_part(form, forms.changed(form, change)))
            self.assertEqual(sum(turns.taken_by_turns(8, form)), 2 ** 48)
            turns.halves_at(64, form)

    def test_parts(self):
        for one, _ in list(self.great_pieces())[::4]:
            form = pieces.sum_of(one, 6)
            for size in (1, 2, 3):
                part = pieces.sum_of([piece for piece in one if piece[1] % 2][:size], size)
                self.assertEqual(parts.is_part(form, part), parts.rests(form, part) != [])
                parts.is_sure(form, part)
            self.assertTrue(set(one) <= set(parts.pieces_in(form)))
        for seed in range(3):
            form, _, _ = self.great_rows(seed)
            parts.pieces_in(form)
            four, three = [row[:4] for row in form[:4]], [row[2:5] for row in form[2:5]]
            for size in (1, 2, 3, 4):
                self.assertIn(size, [pieces.unknowns_of(some) for some in parts.parts_of(four, size)])
            parts.common_parts(three, [row[:3] for row in form[:3]])
            self.assertIs(parts.is_part(form, form), True)

    def test_kept(self):
        for width, size in ((6, 1), (3, 2), (2, 3), (1, 4), (1, 5), (1, 6)):
            form = [row[:size] for row in self.great_rows(width)[0][:size]]
            self.assertEqual(
                kept.how_many_keep(width, form) * kept.how_many_alike(width, form), kept.how_many_changes(width, size))
            if kept.how_many_keep(width, form) <= 2000:
                self.assertTrue(all(kept.is_keeping(width, form, change) for change in kept.keeping(width, form)[::9]))
        self.assertEqual(len(kept.keeping(1, pieces.sum_of([(0, 1)], 4))), 1344)
        self.assertEqual(kept.how_many_tables(64, 6), 2 ** (64 * 6 + 63 * 15))
        for seed in range(10):
            form, change, _ = self.great_rows(seed)
            self.assertIs(kept.is_keeping(64, form, [[int(i == j) for j in range(6)] for i in range(6)]), True)
            self.assertEqual(kept.kept_from(form), kept.kept_from(forms.changed(form, change)))
            self.assertGreater(len(kept.shares(form)), 2)
            kept.how_many_keep(64, form)
        for scales in ((60,) * 6, (0, 12, 24, 36, 48, 60), (0, 1, 2, 3, 4, 60)):
            form = pieces.sum_of([(k, 3) for k in scales], 6)
            self.assertEqual(kept.settled_width(form), 63)
            self.assertEqual(kept.how_many_keep(64, form), kept.kept_from(form)[1] << 15)

    def test_sheets(self):
        for seed in range(20):
            form, change, numbers = self.great_rows(seed)
            sheet = [row[:seed % 6 + 1] for row in form]
            other = [[item << 64 for item in row] for row in sheet]
            self.assertIs(sheets.are_like(64, sheet, sheet), True)
            self.assertEqual(sheets.rungs_everywhere(other), [k + 64 for k in sheets.rungs_everywhere(sheet)])
            for some in (sheet, other, [[GREAT] * 6] * 6):
                for width in (1, 64):
                    self.assertIs(sheets.is_diagonal(width, some, sheets.diagonal(width, some)), True)
                    for word in (0, 1, 2 ** width - 1, numbers.below(2 ** width)):
                        sheets.pair_count(width, some, word)
                    sheets.silent(width, some)

    def test_alternating(self):
        for seed in range(20):
            form, _, numbers = self.great_rows(seed)
            sheet = [[form[i][j] if i > j else -form[i][j] if i < j else 0 for j in range(6)] for i in range(6)]
            for more in (0, 1, 30):
                some = [[item << more for item in row] for row in sheet]
                self.assertIs(alternating.is_alternating(64, some), True)
                self.assertIs(alternating.is_paired(64, some, alternating.paired(64, some)), True)
                self.assertEqual(len(alternating.pair_rungs(64, some)), 3)

    def test_lines(self):
        for least in (10 ** 99, -10 ** 100 + 1, 0):
            form = [[least + i + j for j in range(6)] for i in range(6)]
            self.assertEqual(lines.of_line(lines.line_of(64, form)), (64, form))
        form = [[7 * 10 ** 36] * 6] * 6
        self.assertGreater(len(lines.line_of(64, form)), 790)
        self.assertEqual(lines.of_line(lines.line_of(64, form)), (64, form))

    def test_books(self):
        for seed in range(6):
            form, change, numbers = self.great_rows(seed)
            some = book.FormBook(64, form)
            pieces_at_first = some.pieces()
            for deed in (("change", change), ("plain",), ("only", [0, 2, 4, 5]), ("beside", [[GREAT, -GREAT], [-GREAT, 7]]), ("plain",)):
                self.assertIs(book.is_deed(some, deed), True)
                some.do(deed)
                if len(some.log()) < 3:
                    self.assertEqual(some.pieces(), pieces_at_first)
                some.value(numbers.words(64, 6)[:len(some.form())])
            other = some.copy()
            for _ in range(5):
                other.undo()
            self.assertEqual(other.form(), form)
            self.assertIs(other.alike(book.FormBook(1, forms.changed(form, change))), True)
            for _ in range(5):
                other.redo()
            self.assertEqual(other, some)
            for _ in range(20):
                some.do(("change", change))
            self.assertEqual(len(some.log()), 25)
            some.pieces()


if __name__ == "__main__":
    unittest.main()
