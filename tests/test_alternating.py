"""Point 57: alternating sheets."""

import unittest
from itertools import product

from tests.helpers import Numbers, all_words, as_key, slow_changed, slow_determinant, steps_to_all
from wordsquares.alternating import is_alternating, is_paired, pair_rungs, paired
from wordsquares.sheets import are_like, rungs

GREAT = 10 ** 30 - 1
SMALL = ((1, 1), (3, 1), (1, 2), (2, 2), (4, 2), (1, 3), (2, 3), (3, 3), (1, 4))


def alternating_sheets(width, size):
    """All alternating sheets with words of a width."""
    whole = 2 ** width
    places = [(i, j) for i in range(size) for j in range(i + 1, size)]
    for items in product(range(whole), repeat=len(places)):
        rows = [[0] * size for _ in range(size)]
        for (i, j), item in zip(places, items):
            rows[i][j], rows[j][i] = item, -item % whole
        yield rows


def by_one_change(width, change, sheet):
    return [[item % 2 ** width for item in row] for row in slow_changed(sheet, change)]


def paired_goal(width, size, half):
    """The sheet that point 57 tells, with these rungs."""
    goal = [[0] * size for _ in range(size)]
    for at, k in enumerate(half):
        goal[2 * at][2 * at + 1] = 2 ** k % 2 ** width
        goal[2 * at + 1][2 * at] = (2 ** width - 2 ** k) % 2 ** width
    return goal


def many_sheets(many, width, seed):
    """Alternating sheets at a width whose items are no words."""
    numbers = Numbers(seed)
    for at in range(many):
        size = at % 6 + 1
        most = numbers.one_of((1, 4, 2 ** 20, GREAT >> 5))
        sheet = [[2 ** width * numbers.between(-3, 3) if i == j else 0 for j in range(size)] for i in range(size)]
        for i in range(size):
            for j in range(i):
                item = numbers.between(-most, most) << (numbers.below(5) if at % 2 else 0)
                if at % 4 == 1:
                    item = item << (3 * i)
                sheet[i][j], sheet[j][i] = item, -item + 2 ** width * numbers.between(-5, 5)
        yield sheet


class IsAlternating(unittest.TestCase):

    def test_values_at_equal_words(self):
        for width, size in ((1, 1), (2, 1), (3, 1), (1, 2), (2, 2)):
            for items in product(range(2 ** width), repeat=size * size):
                sheet = [list(items[i * size:(i + 1) * size]) for i in range(size)]
                noughts = all(
                    sum(sheet[i][j] * x[i] * x[j] for i in range(size) for j in range(size)) % 2 ** width == 0
                    for x in all_words(width, size)
                )
                self.assertIs(is_alternating(width, sheet), noughts, (width, sheet))

    def test_items_need_not_be_words(self):
        for width in (1, 3, 17, 64):
            for sheet in many_sheets(60, width, 1201):
                self.assertIs(is_alternating(width, sheet), True)
                if len(sheet) > 1:
                    for i, j in ((0, 0), (0, 1), (1, 0)):
                        bent = [list(row) for row in sheet]
                        bent[i][j] += 2 ** (width - 1)
                        self.assertIs(is_alternating(width, bent), False)

    def test_any_value_is_judged(self):
        for value in (
            None, True, 0, "", (), [], {}, [0], [[]], [[None]], [[False]], [["0"]], ([0],), [(0,)], [[0, 0]], [[0], [0]],
            [[0, 1], [7, 0, 0]], [[0, 1], (7, 0)], [[0] * 7] * 7, [[0, 1], [7]], [[0, 1], [7, False]], [[0, 1], [7, None]],
            [[1]], [[4]], [[0, 1], [1, 0]], [[0, 1], [6, 0]], [[4, 0], [0, 4]], {0: [0]},
        ):
            self.assertIs(is_alternating(3, value), False, value)
        for value in ([[0]], [[8]], [[-8]], [[0, 1], [7, 0]], [[0, 1], [-1, 0]], [[8, 9], [15, 80]], [[0, 4], [4, 0]], [[0] * 6] * 6):
            self.assertIs(is_alternating(3, value), True, value)


class PairRungs(unittest.TestCase):

    def test_each_rung_comes_an_even_number_of_times(self):
        for width, size in SMALL:
            for sheet in alternating_sheets(width, size):
                self.assert_rungs(width, sheet)
        for width in (1, 2, 9, 64):
            for sheet in many_sheets(120, width, 1211):
                self.assert_rungs(width, sheet)

    def assert_rungs(self, width, sheet):
        found = rungs(width, sheet)
        self.assertTrue(all(found.count(k) % 2 == 0 for k in found), (width, sheet))
        self.assertEqual(pair_rungs(width, sheet), found[::2])
        self.assertEqual(sorted(pair_rungs(width, sheet) * 2), found)

    def test_written_ones(self):
        self.assertEqual(pair_rungs(3, [[0]]), [])
        self.assertEqual(pair_rungs(3, [[0, 4], [4, 0]]), [2])
        self.assertEqual(pair_rungs(3, [[0, 8], [-8, 0]]), [])
        self.assertEqual(pair_rungs(64, [[0, 2 ** 63], [2 ** 63, 0]]), [63])
        self.assertEqual(pair_rungs(9, [[0, 0, 4], [0, 0, 0], [-4, 0, 0]]), [2])


class LikeByOneChange(unittest.TestCase):

    def test_like_at_all_exactly_if_like_by_one_change(self):
        for width, size in SMALL:
            classes = []
            seen = {}
            for sheet in alternating_sheets(width, size):
                if as_key(sheet) not in seen:
                    seen[as_key(sheet)] = len(classes)
                    left = [sheet]
                    while left:
                        some = left.pop()
                        for step in steps_to_all(size):
                            reached = by_one_change(width, step, some)
                            if as_key(reached) not in seen:
                                seen[as_key(reached)] = len(classes)
                                left.append(reached)
                    classes.append(sheet)
            for key, number in seen.items():
                for at, other in enumerate(classes):
                    self.assertIs(are_like(width, [list(row) for row in key], other), at == number)

    def test_by_going_through_all_changes(self):
        for width, size in ((1, 2), (2, 2), (1, 3)):
            changes = [
                rows for items in product(range(2 ** width), repeat=size * size)
                for rows in [[list(items[i * size:(i + 1) * size]) for i in range(size)]] if slow_determinant(rows) % 2
            ]
            for one in alternating_sheets(width, size):
                reached = {as_key(by_one_change(width, change, one)) for change in changes}
                for other in alternating_sheets(width, size):
                    self.assertIs(are_like(width, one, other), as_key(other) in reached)


class Paired(unittest.TestCase):

    def assert_paired(self, width, sheet):
        change = paired(width, sheet)
        goal = paired_goal(width, len(sheet), pair_rungs(width, sheet))
        self.assertEqual(by_one_change(width, change, sheet), goal, (width, sheet))
        self.assertEqual(slow_determinant(change) % 2, 1)
        self.assertIs(is_paired(width, sheet, change), True)

    def test_it_leads_there(self):
        for width, size in SMALL:
            for sheet in alternating_sheets(width, size):
                self.assert_paired(width, sheet)
        for width in (1, 2, 9, 64):
            for sheet in many_sheets(48, width, 1221):
                self.assert_paired(width, sheet)

    def test_exactly_the_changes_that_lead_there(self):
        for width, size in ((1, 2), (2, 2), (1, 3), (3, 1)):
            for sheet in alternating_sheets(width, size):
                goal = paired_goal(width, size, pair_rungs(width, sheet))
                for items in product(range(2 ** width), repeat=size * size):
                    rows = [list(items[i * size:(i + 1) * size]) for i in range(size)]
                    right = slow_determinant(rows) % 2 == 1 and by_one_change(width, rows, sheet) == goal
                    self.assertIs(is_paired(width, sheet, rows), right)

    def test_bent_ones_are_none(self):
        sheet = [[0, 6], [2, 0]]
        self.assertIs(is_paired(3, sheet, [[1, 0], [0, 3]]), True)
        self.assertIs(is_paired(3, sheet, [[9, 8], [-16, -5]]), True)
        for wrong in (
            None, True, 0, "", (), [], {}, [[1]], [[1, 0], [0, 1]], [[1, 0], (0, 3)], ([1, 0], [0, 3]), [[1, 0], [0, 2]],
            [[True, 0], [0, 3]], [[1, False], [0, 3]], [[1, 0], [0, None]], ([[1, 0], [0, 3]],), [[1, 0, 0], [0, 3, 0], [0, 0, 1]],
            [[0, 3], [1, 0]], [[1, 0], [0, "3"]], [[0, 0], [0, 0]], {0: [1, 0]},
        ):
            self.assertIs(is_paired(3, sheet, wrong), False, wrong)
        for wrong in ([[0]], [[2]], [[True]], None):
            self.assertIs(is_paired(3, [[0]], wrong), False)
        self.assertIs(is_paired(3, [[0]], [[-5]]), True)


if __name__ == "__main__":
    unittest.main()
