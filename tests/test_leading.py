"""Points 30 to 33: steps, and changes that lead from form to form."""

import unittest
from itertools import product

from tests.helpers import (
    Numbers, are_words_below, as_key, classes_by_changes, led_by, pieces_up_to, rows_of, slow_changed,
    slow_determinant, slow_table, small_tables, unknowns_in,
)
from wordsquares.alike import alike_at
from wordsquares.errors import Unlike
from wordsquares.exchanges import exchanges_of
from wordsquares.forms import is_change, joined, undone
from wordsquares.leading import all_leading, change_of_steps, is_leading, leading_change, plain_change, steps_of
from wordsquares.led import rows_of_exchange
from wordsquares.plain import plain_at

GREAT = 10 ** 30 - 1


def unit(size):
    return [[int(i == j) for j in range(size)] for i in range(size)]


def change_of_step(size, step):
    """The change of one step by the words of point 30."""
    change = unit(size)
    if step[0] == "add":
        change[step[1]][step[2]] = step[3]
    else:
        change[step[1]][step[1]] = step[2]
    return change


def slow_product(width, size, steps):
    found = unit(size)
    for step in steps:
        other = change_of_step(size, step)
        found = [[sum(row[k] * other[k][j] for k in range(size)) % 2 ** width for j in range(size)] for row in found]
    return found


def small_changes(width, size):
    """All changes whose items are words, in order."""
    for items in product(range(2 ** width), repeat=size * size):
        change = [list(items[at:at + size]) for at in range(0, size * size, size)]
        if slow_determinant(change) % 2:
            yield change


class Steps(unittest.TestCase):

    def assert_steps(self, width, change):
        size = len(change)
        steps = steps_of(width, change)
        self.assertLessEqual(len(steps), size * (size + 1))
        for step in steps:
            self.assertIs(type(step), tuple)
            if step[0] == "add":
                self.assertEqual(len(step), 4)
                self.assertTrue(0 <= step[1] < size and 0 <= step[2] < size and step[1] != step[2])
            else:
                self.assertEqual([step[0], len(step)], ["times", 3])
                self.assertTrue(0 <= step[1] < size and step[2] % 2 == 1)
            self.assertTrue(0 <= step[-1] < 2 ** width)
        there = [[item % 2 ** width for item in row] for row in change]
        self.assertEqual(slow_product(width, size, steps), there)
        self.assertEqual(change_of_steps(width, size, steps), there)

    def test_all_small_changes(self):
        for width, size in ((1, 1), (4, 1), (1, 2), (2, 2), (1, 3)):
            for change in small_changes(width, size):
                self.assert_steps(width, change)
        for items in product(range(-2, 4), repeat=4):
            change = [list(items[:2]), list(items[2:])]
            if slow_determinant(change) % 2:
                self.assert_steps(3, change)

    def test_great_changes(self):
        numbers = Numbers(901)
        for at in range(400):
            size = at % 6 + 1
            change = numbers.change(size, numbers.one_of((1, 5, 10 ** 9)))
            for width in (1, 2, 33, 64):
                self.assert_steps(width, change)
        for size in range(1, 7):
            for _ in range(40):
                change = [[numbers.between(-GREAT, GREAT) for _ in range(size)] for _ in range(size)]
                if is_change(change):
                    self.assert_steps(64, change)

    def test_changes_of_places(self):
        for size in range(2, 7):
            self.assert_steps(64, unit(size)[::-1])
            self.assert_steps(1, unit(size)[1:] + unit(size)[:1])
            self.assert_steps(8, [[int(j >= i) for j in range(size)] for i in range(size)][::-1])

    def test_all_short_lists_of_steps(self):
        for width, size in ((1, 1), (3, 1), (1, 2), (2, 2), (1, 3)):
            every = [("times", i, word) for i in range(size) for word in range(1, 2 ** width, 2)]
            every += [("add", i, j, word) for i in range(size) for j in range(size) if i != j for word in range(2 ** width)]
            for many in (0, 1, 2):
                for steps in product(every, repeat=many):
                    steps = list(steps)
                    self.assertEqual(change_of_steps(width, size, steps), slow_product(width, size, steps))

    def test_long_lists_of_steps(self):
        numbers = Numbers(902)
        for size in (2, 3, 6):
            for width in (2, 64):
                steps = []
                for _ in range(200):
                    i, j = numbers.below(size), numbers.below(size)
                    word = numbers.below(2 ** width)
                    steps.append(("times", i, word | 1) if i == j else ("add", i, j, word))
                self.assertEqual(change_of_steps(width, size, steps), slow_product(width, size, steps))

    def test_no_steps(self):
        for size in range(1, 7):
            self.assertEqual(change_of_steps(5, size, []), unit(size))
            self.assertEqual(steps_of(64, unit(size)), [])


class IsLeading(unittest.TestCase):

    def test_all_small_changes(self):
        forms = [[[1, 0], [0, 1]], [[0, 1], [1, 0]], [[2, 1], [1, 2]], [[1, 0], [0, 3]], [[0, 0], [0, 0]], [[5, 2], [2, 2]]]
        for width in (1, 2):
            for one, other in product(forms, repeat=2):
                found = 0
                for change in small_changes(width, 2):
                    right = led_by(width, one, change) == slow_table(width, other)
                    self.assertIs(is_leading(width, one, other, change), right)
                    found += right
                self.assertIs(found > 0, alike_at(width, one, other))

    def test_any_value_is_judged(self):
        one = [[1, 0], [0, 1]]
        for wrong in (
            None, True, 0, "", (), [], {}, [1], [[1]], ((1, 0), (0, 1)), [(1, 0), (0, 1)], [[1, 0], [0, True]],
            [[True, False], [False, True]], [[2, 0], [0, 1]], [[1, 0]], [[1, 0], [0, 1], [0, 0]], unit(3), [[1, 0], [0, None]],
        ):
            self.assertIs(is_leading(3, one, one, wrong), False, wrong)
        for right in (unit(2), [[0, -1], [1, 0]], [[1 + 8 * GREAT, 16], [0, -1]]):
            self.assertIs(is_leading(3, one, one, right), True)

    def test_what_changes_make_is_led_to(self):
        numbers = Numbers(911)
        for at in range(200):
            size = at % 6 + 1
            one, change = numbers.form(size, numbers.one_of((3, GREAT))), numbers.change(size, 4)
            other = slow_changed(one, change)
            for width in (1, 4, 64):
                self.assertIs(is_leading(width, one, other, change), True)
                self.assertIs(is_leading(width, other, one, undone(width, change)), True)


class PlainChange(unittest.TestCase):

    def assert_plain(self, width, form):
        found = plain_change(width, form)
        self.assertIs(type(found), tuple)
        pieces, change = found
        self.assertEqual(pieces, plain_at(width, form))
        self.assertTrue(is_change(change) and are_words_below(width, change) and len(change) == len(form))
        self.assertEqual(led_by(width, form, change), slow_table(width, rows_of(pieces, len(form))), (width, form))

    def test_all_small_tables(self):
        for width, size in ((1, 1), (2, 1), (3, 1), (6, 1), (1, 2), (2, 2), (3, 2), (1, 3), (2, 3), (1, 4)):
            for table in small_tables(width, size):
                self.assert_plain(width, table)

    def test_small_pieces(self):
        for width, size, step in ((3, 3, 1), (4, 3, 3), (5, 3, 11), (3, 4, 11), (4, 4, 31), (8, 4, 37)):
            for pieces in pieces_up_to(min(width, 4), size)[::step]:
                self.assert_plain(width, rows_of(pieces, size))

    def test_many_unknowns(self):
        numbers = Numbers(921)
        for at in range(500):
            size = at % 3 + 4
            width = numbers.one_of((1, 2, 3, 4, 5, 6, 33, 63, 64))
            least = numbers.one_of((0, max(0, width - 4)))
            pieces = [(k + least, kind) for k, kind in numbers.pieces(size, numbers.one_of((1, 2, 3, 5)))]
            self.assert_plain(width, slow_changed(rows_of(pieces, size), numbers.change(size, 2)))

    def test_forms_up_to_the_limits(self):
        numbers = Numbers(922)
        for at in range(200):
            size = at % 6 + 1
            for width in (1, 2, 7, 64):
                self.assert_plain(width, numbers.form(size, GREAT))

    def test_squares_far_apart(self):
        for width in (64, 12):
            for kinds in ((7, 7, 7, 7, 7, 7), (3, 5, 3, 5, 3, 5), (5, 3, 1, 7, 5, 3)):
                for scales in (range(6), range(0, 12, 2), (0, 1, 3, 4, 6, 7), (6, 7, 8, 9, 10, 11), (0, 0, 2, 2, 4, 4)):
                    self.assert_plain(width, rows_of(list(zip(scales, kinds)), 6))


class ExchangesLed(unittest.TestCase):

    def test_each_exchange_is_led_by_its_vectors(self):
        # A shortest road need not go over all kinds of exchanges, so each is looked at for itself.
        kinds = set()
        for pieces in pieces_up_to(3, 3) + [[(k, 0), (k, 0)] for k in range(3)] + [[(k, 2), (k, 2)] for k in range(3)]:
            for taken, put in exchanges_of(pieces):
                size = unknowns_in(taken)
                kinds.add(tuple(kind % 2 for _, kind in taken) + (taken[-1][0] - taken[0][0],))
                for width in range(max(k + 1 if kind % 2 else k + 2 for k, kind in taken + put), 8):
                    change = [list(column) for column in zip(*rows_of_exchange(width, taken, put))]
                    self.assertTrue(is_change(change) and are_words_below(width, change))
                    there = led_by(width, rows_of(taken, size), change)
                    self.assertEqual(there, slow_table(width, rows_of(put, size)), (width, taken, put))
        self.assertEqual(kinds, {
            (1, 1, 0), (1, 1, 1), (1, 1, 2), (1, 0, 0), (0, 1, 0), (1, 0, 1), (0, 1, 1), (0, 0, 0), (1, 1, 1, 0)})


class LeadingChange(unittest.TestCase):

    def assert_leads(self, width, one, other):
        change = leading_change(width, one, other)
        self.assertTrue(is_change(change) and are_words_below(width, change))
        self.assertEqual(led_by(width, one, change), slow_table(width, other), (width, one, other))
        self.assertIs(is_leading(width, one, other, change), True)
        return change

    def assert_none(self, width, one, other):
        with self.assertRaises(Unlike) as told:
            leading_change(width, one, other)
        self.assertIs(told.exception.value, other)

    def test_all_small_tables(self):
        for width, size in ((1, 1), (2, 1), (3, 1), (1, 2), (2, 2), (1, 3)):
            numbers = classes_by_changes(width, size)
            tables = list(small_tables(width, size))
            for one in tables:
                for other in tables:
                    if numbers[as_key(one)] == numbers[as_key(other)]:
                        self.assert_leads(width, one, other)
                    else:
                        self.assert_none(width, one, other)

    def test_changed_forms(self):
        numbers = Numbers(931)
        for at in range(400):
            size = at % 6 + 1
            width = numbers.one_of((1, 2, 3, 5, 31, 64))
            one = numbers.form(size, numbers.one_of((2, 30, GREAT)))
            if at % 2:
                one = rows_of(numbers.pieces(size, 5), size)
            other = slow_changed(one, numbers.change(size, 3))
            there = self.assert_leads(width, one, other)
            back = self.assert_leads(width, other, one)
            # What leads there, undone, leads back; and what leads on, multiplied to the right, leads on.
            self.assertIs(is_leading(width, other, one, undone(width, there)), True)
            self.assertIs(is_leading(width, one, one, joined(there, back)), True)

    def test_forms_that_are_not_alike(self):
        numbers = Numbers(932)
        for at in range(150):
            size = at % 6 + 1
            one, other = numbers.form(size, 9), numbers.form(size, 9)
            for width in (1, 2, 4, 64):
                if alike_at(width, one, other):
                    self.assert_leads(width, one, other)
                else:
                    self.assert_none(width, one, other)
        self.assert_none(3, [[1]], [[1, 0], [0, 0]])
        self.assert_leads(3, [[1]], [[9]])
        self.assert_none(4, [[1]], [[5]])
        self.assert_leads(2, [[1]], [[5]])

    def test_the_greatest_width(self):
        self.assert_leads(64, [[1]], [[17]])
        self.assert_leads(64, [[1, 0], [0, 1]], [[5, 0], [0, 5]])
        self.assert_leads(64, [[2, 1], [1, 2]], [[6, 3], [3, 6]])
        self.assert_none(64, [[0, 1], [1, 0]], [[2, 1], [1, 2]])
        self.assert_leads(64, [[2 ** 62]], [[5 * 2 ** 62]])
        self.assert_none(64, [[2 ** 62]], [[3 * 2 ** 62]])
        self.assert_leads(64, [[2 ** 63, 0], [0, 2 ** 63]], [[2 ** 63, 0], [0, 0]])


class AllLeading(unittest.TestCase):

    def slow_all_leading(self, width, one, other):
        goal = slow_table(width, other)
        return [change for change in small_changes(width, len(one)) if led_by(width, one, change) == goal]

    def test_all_small_tables(self):
        for width, size, step in ((1, 1, 1), (2, 1, 1), (3, 1, 1), (4, 1, 1), (1, 2, 1), (2, 2, 5), (3, 2, 97)):
            tables = list(small_tables(width, size))[::step]
            for one in tables[::step // 60 + 1]:
                for other in tables[::step // 30 + 1]:
                    self.assertEqual(all_leading(width, one, other), self.slow_all_leading(width, one, other))

    def test_as_many_lead_on_as_keep_the_form(self):
        for width, size in ((1, 1), (3, 1), (1, 2), (2, 2)):
            numbers = classes_by_changes(width, size)
            tables = list(small_tables(width, size))
            for one in tables:
                many = len(all_leading(width, one, one))
                self.assertGreater(many, 0)
                for other in tables[::3]:
                    alike = numbers[as_key(one)] == numbers[as_key(other)]
                    self.assertEqual(len(all_leading(width, one, other)), many if alike else 0)

    def test_the_greatest_width(self):
        one, other = [[1, 0], [0, 2]], [[3, 0], [0, 6]]
        found = all_leading(3, one, other)
        self.assertEqual(found, self.slow_all_leading(3, one, other))
        self.assertEqual(len(found), len(all_leading(3, one, one)))
        self.assertIn(leading_change(3, one, other), found)
        self.assertEqual(len(all_leading(3, [[0, 0], [0, 0]], [[8, 4], [4, 8]])), 1536)

    def test_items_beyond_the_words(self):
        great = 8 * GREAT
        self.assertEqual(all_leading(3, [[1 + great]], [[9 - great]]), [[[1]], [[3]], [[5]], [[7]]])
        self.assertEqual(all_leading(3, [[1]], [[3]]), [])

    def test_results_are_new(self):
        found = all_leading(2, [[1]], [[1]])
        found[0].append(5)
        self.assertEqual(all_leading(2, [[1]], [[1]]), [[[1]], [[3]]])


if __name__ == "__main__":
    unittest.main()
