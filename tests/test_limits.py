"""Point 3: all functions answer up to the limits within seconds."""

import time
import unittest

from tests.helpers import Numbers
from wordsquares import forms, pieces, splits

GREAT = 10 ** 30 - 1
SECONDS = 5


class Limits(unittest.TestCase):

    def setUp(self):
        self.began = time.monotonic()

    def tearDown(self):
        self.assertLess(time.monotonic() - self.began, SECONDS)

    def great_rows(self, seed):
        numbers = Numbers(seed)
        form = [[0] * 6 for _ in range(6)]
        for i in range(6):
            for j in range(i, 6):
                form[i][j] = form[j][i] = numbers.between(-GREAT, GREAT)
        change = [[2 * numbers.between(-GREAT // 2, GREAT // 2) + int(i <= j) for j in range(6)] for i in range(6)]
        return form, change, numbers

    def test_forms_and_changes(self):
        for seed in range(10):
            form, change, numbers = self.great_rows(seed)
            words = numbers.words(64, 6)
            self.assertTrue(forms.is_form(form) and forms.is_change(change))
            self.assertEqual(forms.determinant(change) % 2, 1)
            other = forms.changed(form, change)
            there = forms.moved(64, change, words)
            self.assertEqual(forms.value_at(64, other, words), forms.value_at(64, form, there))
            self.assertEqual(forms.moved(64, forms.undone(64, change), there), words)
            self.assertIsNotNone(forms.parting_words(64, form, other))
            self.assertIsNone(forms.parting_words(64, form, forms.table_of(64, form)))
            self.assertEqual(forms.changed(other, change), forms.changed(form, forms.joined(change, change)))
            self.assertEqual(len(forms.beside([[GREAT]], [[-GREAT]])), 2)

    def test_pieces(self):
        for some in ([(1000, 7)] * 6, [(1000, 0), (1000, 0), (1000, 2)], [(0, 1), (999, 2), (1000, 0), (1000, 3)]):
            form = pieces.sum_of(some, 6)
            self.assertEqual(splits.pieces_of(form), some)
            self.assertEqual(pieces.cut(64, some), [piece for piece in some if piece[0] < 64])
            self.assertEqual(pieces.unknowns_of(pieces.times(some, -GREAT)), pieces.unknowns_of(some))
            self.assertEqual(pieces.together(some, []), some)

    def test_splits(self):
        for seed in range(10):
            form, change, _ = self.great_rows(seed)
            self.assertTrue(splits.is_split(64, form, splits.split(64, form)))
            self.assertEqual(splits.split(64, form)[0], splits.pieces_at(64, form))
            self.assertEqual(splits.scales_of(form), splits.scales_of(forms.changed(form, change)))
            self.assertIsNotNone(splits.fewest_twos(form))


if __name__ == "__main__":
    unittest.main()
