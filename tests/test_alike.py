"""Points 21 to 23: which forms are alike, and from which width on they are not."""

import unittest

from tests.helpers import (
    Numbers, as_key, classes_by_changes, pieces_up_to, rows_of, settled, slow_changed, slow_symbol, slow_pieces_of,
    small_forms, small_tables, two_sums,
)
from wordsquares.alike import alike_at, are_alike, grouped, grouped_at, parting_width
from wordsquares.errors import InvalidForm, InvalidWidth, Unlike
from wordsquares.plain import plain_at
from wordsquares.symbols import symbol

GREAT = 10 ** 30 - 1


class AtAWidth(unittest.TestCase):

    def test_exactly_if_a_change_leads_there(self):
        for width, size in ((1, 1), (2, 1), (3, 1), (5, 1), (1, 2), (2, 2), (3, 2), (1, 3), (2, 3)):
            numbers = classes_by_changes(width, size)
            tables = list(small_tables(width, size))
            for one in tables[::max(1, len(tables) // 60)]:
                for other in tables[::max(1, len(tables) // 100)]:
                    right = numbers[as_key(one)] == numbers[as_key(other)]
                    self.assertIs(alike_at(width, one, other), right, (width, one, other))

    def test_exactly_if_the_plain_pieces_are_equal(self):
        for one, other in two_sums(300, 401, 30):
            for width in (1, 2, 3, 4, 5, 6, 30, 31, 32, 33, 64):
                self.assertIs(alike_at(width, one, other), plain_at(width, one) == plain_at(width, other))

    def test_changed_forms_are_alike_at_each_width(self):
        numbers = Numbers(402)
        for at in range(300):
            size = at % 6 + 1
            one = numbers.form(size, numbers.one_of((1, 4, GREAT)))
            other = slow_changed(one, numbers.change(size, 3))
            self.assertIs(are_alike(one, other), True)
            self.assertIsNone(parting_width(one, other))
            for width in (1, 2, 3, 5, 8, 31, 64):
                self.assertIs(alike_at(width, one, other), True)
                self.assertIs(alike_at(width, other, [[item + (7 << width) for item in row] for row in one]), True)

    def test_alike_at_a_width_then_at_each_lesser_one(self):
        for one, other in two_sums(300, 403, 20):
            found = [alike_at(width, one, other) for width in range(1, 27)]
            self.assertEqual(found, sorted(found, reverse=True))


class AtEveryWidth(unittest.TestCase):

    def test_exactly_if_the_symbols_are_equal(self):
        yes = 0
        for one, other in two_sums(900, 411, 58):
            size = len(one)
            right = slow_symbol(slow_pieces_of(one), size) == slow_symbol(slow_pieces_of(other), size)
            self.assertIs(are_alike(one, other), right)
            yes += right
        self.assertTrue(100 < yes < 800)

    def test_exactly_if_they_are_at_the_width_that_settles_it(self):
        for one, other in two_sums(600, 412, 58):
            width = settled(one, other)
            self.assertLessEqual(width, 64)
            self.assertIs(alike_at(width, one, other), are_alike(one, other))

    def test_small_forms(self):
        forms = list(small_forms(2, -2, 2))
        for one in forms[::4]:
            for other in forms[::3]:
                self.assertIs(are_alike(one, other), symbol(one) == symbol(other))


class PartingWidth(unittest.TestCase):

    def test_the_least_one_at_which_the_plain_pieces_are_unlike(self):
        seen = set()
        for one, other in two_sums(500, 421, 12):
            found = parting_width(one, other)
            unlike = [width for width in range(1, 20) if plain_at(width, one) != plain_at(width, other)]
            self.assertEqual(found, unlike[0] if unlike else None, (one, other))
            self.assertIs(found is None, are_alike(one, other))
            if found is not None:
                self.assertLessEqual(found, settled(one, other))
                seen.add(found)
        self.assertLessEqual(set(range(1, 13)), seen)

    def test_all_small_pieces(self):
        some = [rows_of(pieces, 2) for pieces in pieces_up_to(3, 2)]
        for one in some[::3]:
            for other in some[::5]:
                unlike = [width for width in range(1, 8) if plain_at(width, one) != plain_at(width, other)]
                self.assertEqual(parting_width(one, other), unlike[0] if unlike else None)

    def test_the_bound_is_reached(self):
        for k in (0, 1, 5, 58):
            self.assertEqual(parting_width([[2 ** k]], [[5 * 2 ** k]]), k + 3)
            self.assertEqual(parting_width([[2 ** k]], [[3 * 2 ** k]]), k + 2)
            self.assertEqual(parting_width([[2 ** k]], [[0]]), k + 1)
            self.assertEqual(parting_width(rows_of([(k, 0)], 2), rows_of([(k, 2)], 2)), k + 2)
            self.assertEqual(parting_width(rows_of([(k, 0)], 2), [[0, 0], [0, 0]]), k + 2)

    def test_any_whole_number_may_be_told(self):
        for k in (62, 63, 64, 65, 90):
            self.assertEqual(parting_width([[2 ** k]], [[5 * 2 ** k]]), k + 3)
            self.assertEqual(parting_width([[0]], [[2 ** k]]), k + 1)
        great = 2 ** 64
        for width in (63, 64):
            self.assertIs(alike_at(width, [[great]], [[0]]), True)
        self.assertIs(are_alike([[great]], [[0]]), False)
        self.assertEqual(parting_width([[2 ** 61, 0], [0, 2 ** 61]], [[3 * 2 ** 61, 0], [0, 3 * 2 ** 61]]), 63)

    def test_forms_up_to_the_limits(self):
        numbers = Numbers(422)
        for at in range(200):
            size = at % 6 + 1
            one, other = numbers.form(size, GREAT), numbers.form(size, GREAT)
            found = parting_width(one, other)
            if found is not None:
                self.assertLessEqual(found, settled(one, other))
                for width in range(max(1, found - 1), min(64, found + 1) + 1):
                    self.assertIs(alike_at(width, one, other), width < found)


class Grouped(unittest.TestCase):

    def slow_groups(self, forms, alike):
        groups = []
        for at, form in enumerate(forms):
            for group in groups:
                if alike(forms[group[0]], form):
                    group.append(at)
                    break
            else:
                groups.append([at])
        return sorted(groups)

    def test_many_lists(self):
        numbers = Numbers(431)
        for at in range(40):
            size = at % 6 + 1
            forms = [rows_of(numbers.pieces(size, 2), size) for _ in range(numbers.below(25))]
            forms += [slow_changed(form, numbers.change(size, 2)) for form in forms[::3]]
            forms += forms[:2]
            self.assertEqual(grouped(forms), self.slow_groups(forms, are_alike))
            for width in (1, 2, 3, 64):
                found = grouped_at(width, forms)
                self.assertEqual(found, self.slow_groups(forms, lambda one, other: alike_at(width, one, other)))
                self.assertEqual(found, sorted(found))
                self.assertEqual(sorted(number for group in found for number in group), list(range(len(forms))))

    def test_few_forms(self):
        self.assertEqual([grouped([]), grouped_at(5, []), grouped([[[3]]]), grouped_at(1, [[[0]]])], [[], [], [[0]], [[0]]])
        form = [[1, 0], [0, 2]]
        self.assertEqual(grouped([form, form, form]), [[0, 1, 2]])
        self.assertEqual(grouped_at(64, [form, [[0, 0], [0, 0]], form]), [[0, 2], [1]])

    def test_lists_that_are_none(self):
        for wrong in (None, True, 0, 1, "", (), ([[1]],), {}, {0: [[1]]}, "forms", InvalidForm()):
            for call in (lambda: grouped(wrong), lambda: grouped_at(3, wrong)):
                with self.assertRaises(InvalidForm) as told:
                    call()
                self.assertIs(told.exception.value, wrong)

    def test_items_that_are_no_forms(self):
        for wrong in (None, True, 0, "x", (), [], [1], [[1, 2], [3, 4]], [[True]], ([1],), [(1,)], [[0] * 7] * 7):
            # The first one that is none is told, also behind a form of another size.
            for forms in ([wrong], [[[1]], wrong], [[[1]], [[1, 0], [0, 1]], wrong, None]):
                for call in (lambda: grouped(forms), lambda: grouped_at(3, forms)):
                    with self.assertRaises(InvalidForm) as told:
                        call()
                    self.assertIs(told.exception.value, wrong)

    def test_forms_of_other_sizes(self):
        two, three = [[1, 0], [0, 1]], [[0] * 3] * 3
        for forms, wrong in (([two, two, [[1]], three], [[1]]), ([[[2]], three, two], three), ([two, three], three)):
            for call in (lambda: grouped(forms), lambda: grouped_at(64, forms)):
                with self.assertRaises(Unlike) as told:
                    call()
                self.assertEqual(told.exception.value, wrong)
                self.assertTrue(any(told.exception.value is form for form in forms))

    def test_the_width_is_told_first(self):
        for wrong in (0, 65, None, True, "3", [3]):
            with self.assertRaises(InvalidWidth) as told:
                grouped_at(wrong, None)
            self.assertIs(told.exception.value, wrong)


if __name__ == "__main__":
    unittest.main()
