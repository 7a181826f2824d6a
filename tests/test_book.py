"""Points 59 to 61: a live book."""

import unittest
from copy import deepcopy

from tests.helpers import Numbers, rows_of, slow_changed, slow_value, unknowns_in
from wordsquares.alike import alike_at
from wordsquares.book import FormBook, is_deed
from wordsquares.errors import FormError, InvalidDeed, InvalidForm, InvalidWidth, InvalidWords, NothingToRedo, NothingToUndo
from wordsquares.plain import plain_at

FORM = [[1, 2], [2, 5]]
THREE = [[1, 0, 0], [0, 2, 1], [0, 1, 4]]
SIX = [[int(i == j) for j in range(6)] for i in range(6)]


def deeds_of(numbers, width, form):
    """A deed of some kind that can be done with a form."""
    size = len(form)
    kind = numbers.below(6)
    if kind == 0:
        return ("change", numbers.change(size, 2))
    if kind == 1 and size < 6:
        more = numbers.between(1, 6 - size)
        return ("beside", numbers.form(more, 9))
    if kind == 2:
        places = [at for at in range(size) if numbers.below(3)]
        return ("only", places or [numbers.below(size)])
    if kind == 3:
        return ("width", numbers.one_of((1, 2, 3, 8, 64)))
    return ("plain",) if kind == 4 else ("change", numbers.change(size, 1))


def slow_after(width, form, deed):
    """What a deed makes, by the words of point 59."""
    name = deed[0]
    if name == "change":
        return width, slow_changed(form, deed[1])
    if name == "beside":
        size, more = len(form), len(deed[1])
        both = [[0] * (size + more) for _ in range(size + more)]
        for i in range(size):
            both[i][:size] = form[i]
        for i in range(more):
            both[size + i][size:] = deed[1][i]
        return width, both
    if name == "only":
        return width, [[form[i][j] for j in deed[1]] for i in deed[1]]
    if name == "width":
        return deed[1], form
    return width, rows_of(plain_at(width, form), len(form))


def no_deeds():
    """What is no deed of a book with two unknowns."""
    unit = [[1, 0], [0, 1]]
    return [
        None, True, False, 0, 1, "", "plain", "change", (), [], {}, ["plain"], ("plain", None), ("plain", 1), ("plain", "plain"),
        (("plain",),), [("plain",)], ("Plain",), ("PLAIN",), ("",), (None,), (True,), (0,), ("undo",), ("redo",), ("do",), ("width",),
        ("change",), ("beside",), ("only",), ("change", unit, unit), ("width", 3, 3), ["width", 3], ["change", unit], {"width": 3},
        ("change", None), ("change", True), ("change", 1), ("change", "1"), ("change", []), ("change", [[1]]), ("change", THREE),
        ("change", [[2]]), ("change", [[2, 0], [0, 1]]), ("change", [[1, 1], [1, 1]]), ("change", ([1, 0], [0, 1])),
        ("change", [(1, 0), (0, 1)]), ("change", [[1, 0], [0, True]]), ("change", [[1, 0], [0, None]]), ("change", [[1, 0]]),
        ("change", [unit]), ("Change", unit), ("CHANGE", unit), (None, unit), (["change"], unit), (0, unit), ("changed", unit),
        ("beside", None), ("beside", 0), ("beside", []), ("beside", [[1, 2], [3, 4]]), ("beside", [[True]]), ("beside", ([1],)),
        ("beside", [[1], [2]]), ("beside", [row[:5] for row in SIX[:5]]), ("beside", SIX), ("beside", "1:1"), ("beside", [1]),
        ("only", None), ("only", []), ("only", ()), ("only", (0,)), ("only", 0), ("only", "0"), ("only", [0, 0]), ("only", [1, 0]),
        ("only", [2]), ("only", [0, 2]), ("only", [-1]), ("only", [-1, 0]), ("only", [True]), ("only", [False, 1]), ("only", [None]),
        ("only", ["0"]), ("only", [[0]]), ("only", [0, 1, 2]), ("only", {0: 1}), ("only", [0, 1, 1]), ("only", [10 ** 29]),
        ("width", None), ("width", True), ("width", 0), ("width", 65), ("width", -1), ("width", "3"), ("width", [3]), ("width", (3,)),
        ("width", 10 ** 29), ("form", [[1]]), ("value", [1, 1]), (1, 2), ("width", FormBook(3, [[1]])), (FormBook(3, [[1]]),),
        FormBook(3, [[1]]), InvalidDeed(("plain",)),
    ]


class Deeds(unittest.TestCase):

    def test_rows_of_deeds_with_taking_back_and_doing_again(self):
        kinds = {}
        for seed in range(60):
            numbers = Numbers(1400 + seed)
            width, form = numbers.between(1, 64), numbers.form(numbers.between(1, 6), numbers.one_of((1, 9, 10 ** 30 - 1)))
            book = FormBook(width, form)
            states, deeds, done = [(width, form)], [], 0
            for _ in range(40):
                what = numbers.below(8)
                if what == 0:
                    if done == 0:
                        self.assertRaises(NothingToUndo, book.undo)
                    else:
                        self.assertIsNone(book.undo())
                        done -= 1
                elif what == 1:
                    if done == len(deeds):
                        self.assertRaises(NothingToRedo, book.redo)
                    else:
                        self.assertIsNone(book.redo())
                        done += 1
                elif what == 2:
                    wrong = numbers.one_of([("plain", 1), ("only", [9]), ("width", 0), ("change", [[2]]), ("beside", SIX)])
                    self.assertIs(is_deed(book, wrong), False)
                    with self.assertRaises(InvalidDeed) as found:
                        book.do(wrong)
                    self.assertIs(found.exception.value, wrong)
                elif len(str(states[done])) < 9000:
                    deed = deeds_of(numbers, *states[done])
                    before = deepcopy(deed)
                    self.assertIs(is_deed(book, deed), True)
                    self.assertIsNone(book.do(deed))
                    self.assertEqual(deed, before)
                    kinds[deed[0]] = kinds.get(deed[0], 0) + 1
                    states, deeds = states[:done + 1] + [slow_after(*states[done], deed)], deeds[:done] + [deed]
                    done += 1
                self.assertEqual((book.width(), book.form()), states[done])
                self.assertEqual(book.log(), deeds[:done])
        self.assertEqual(sorted(kinds), ["beside", "change", "only", "plain", "width"])
        self.assertGreater(min(kinds.values()), 50)

    def test_bent_ones_are_refused_at_each_place(self):
        book = FormBook(3, FORM)
        book.do(("width", 4))
        book.undo()
        for wrong in no_deeds():
            self.assertIs(is_deed(book, wrong), False, wrong)
            with self.assertRaises(InvalidDeed) as found:
                book.do(wrong)
            self.assertIs(found.exception.value, wrong)
            self.assertIs(type(found.exception), InvalidDeed)
            self.assertEqual((book.width(), book.form(), book.log()), (3, FORM, []))
        # A deed that is refused does not forget what was undone.
        book.redo()
        self.assertEqual(book.width(), 4)

    def test_bounds_are_those_of_the_form_now(self):
        for size in range(1, 7):
            book = FormBook(3, [row[:size] for row in SIX[:size]])
            for many in range(1, 7):
                other = [row[:many] for row in SIX[:many]]
                self.assertIs(is_deed(book, ("beside", other)), size + many <= 6)
                self.assertIs(is_deed(book, ("change", other)), size == many)
                self.assertIs(is_deed(book, ("only", list(range(many)))), many <= size)
                self.assertIs(is_deed(book, ("only", [many - 1])), many <= size)
            for width in (1, 2, 63, 64):
                self.assertIs(is_deed(book, ("width", width)), True)
        book = FormBook(3, SIX)
        book.do(("only", [1, 3, 5]))
        self.assertEqual(book.form(), THREE[:0] + [row[:3] for row in SIX[:3]])
        self.assertIs(is_deed(book, ("only", [3])), False)
        book.do(("beside", [[7]]))
        self.assertIs(is_deed(book, ("only", [3])), True)
        book.undo()
        self.assertIs(is_deed(book, ("only", [3])), False)

    def test_each_kind(self):
        book = FormBook(3, THREE)
        book.do(("only", [0, 2]))
        self.assertEqual(book.form(), [[1, 0], [0, 4]])
        book.do(("beside", [[0, 1], [1, 0]]))
        self.assertEqual(book.form(), [[1, 0, 0, 0], [0, 4, 0, 0], [0, 0, 0, 1], [0, 0, 1, 0]])
        book.do(("width", 2))
        book.do(("plain",))
        self.assertEqual((book.width(), book.form()), (2, rows_of([(0, 0), (0, 1)], 4)))
        book.do(("width", 64))
        book.do(("change", [[-1, 0, 0, 0], [0, 1, 0, 0], [0, 0, 1, 9], [0, 0, 0, 1]]))
        self.assertEqual(book.form(), slow_changed(rows_of([(0, 0), (0, 1)], 4), [[-1, 0, 0, 0], [0, 1, 0, 0], [0, 0, 1, 9], [0, 0, 0, 1]]))
        self.assertEqual([deed[0] for deed in book.log()], ["only", "beside", "width", "plain", "width", "change"])

    def test_is_deed_takes_books_alone(self):
        for wrong in (None, True, 0, "", (), [], {}, (3, FORM), [3, FORM], "book", InvalidDeed(1)):
            with self.assertRaises(InvalidDeed) as found:
                is_deed(wrong, ("plain",))
            self.assertIs(found.exception.value, wrong)
            with self.assertRaises(InvalidDeed) as found:
                is_deed(book=wrong, value=None)
            self.assertIs(found.exception.value, wrong)


class Books(unittest.TestCase):

    def test_what_is_no_width_and_no_form_makes_none(self):
        for wrong in (None, True, 0, 65, "3", [3], (3,), -1, FormBook(3, FORM)):
            for form in (FORM, [[1, 2], [3, 4]], None):
                with self.assertRaises(InvalidWidth) as found:
                    FormBook(wrong, form)
                self.assertIs(found.exception.value, wrong)
        for wrong in (None, True, 0, [], [[]], [[True]], [[1, 2], [3, 4]], ([1],), [(1,)], "1:1", [[0] * 7] * 7, FormBook(3, FORM)):
            with self.assertRaises(InvalidForm) as found:
                FormBook(width=3, form=wrong)
            self.assertIs(found.exception.value, wrong)

    def test_by_name(self):
        book = FormBook(form=[[1, 2], [2, 5]], width=3)
        self.assertEqual((book.width(), book.form()), (3, FORM))
        book.do(deed=("width", 5))
        self.assertEqual(book.value(words=[30, 2]), slow_value(5, FORM, [30, 2]))
        self.assertIs(book.alike(other=book.copy()), True)
        self.assertIs(is_deed(value=("plain",), book=book), True)

    def test_nothing_to_undo_and_to_redo(self):
        book = FormBook(3, FORM)
        for error, method in ((NothingToUndo, book.undo), (NothingToRedo, book.redo)):
            for _ in range(2):
                with self.assertRaises(FormError) as found:
                    method()
                self.assertIs(type(found.exception), error)
        book.do(("width", 4))
        self.assertRaises(NothingToRedo, book.redo)
        book.undo()
        self.assertRaises(NothingToUndo, book.undo)
        book.redo()
        self.assertEqual(book.log(), [("width", 4)])

    def test_a_deed_forgets_what_was_undone(self):
        book = FormBook(3, FORM)
        for width in (4, 5, 6):
            book.do(("width", width))
        book.undo()
        book.undo()
        book.do(("plain",))
        self.assertRaises(NothingToRedo, book.redo)
        self.assertEqual(book.log(), [("width", 4), ("plain",)])
        book.undo()
        self.assertEqual((book.width(), book.form(), book.log()), (4, FORM, [("width", 4)]))

    def test_lists_may_be_changed_without_an_effect(self):
        form, change, more, places = [[1, 2], [2, 5]], [[1, 3], [0, -1]], [[4]], [0, 2]
        book = FormBook(9, form)
        for deed in (("change", change), ("beside", more), ("only", places)):
            book.do(deed)
        expected = (book.form(), book.log())
        for value in (form, change, more):
            value[0][0] = 77
            value.append([1])
        places.append(5)
        self.assertEqual((book.form(), book.log()), expected)
        told = book.form()
        told[0][0] = 77
        told.pop()
        log = book.log()
        log[0][1][0][0] = 77
        log[2][1].append(9)
        log.pop()
        book.pieces().append((0, 0))
        self.assertEqual((book.form(), book.log()), expected)
        for _ in range(3):
            book.undo()
        self.assertEqual(book.form(), [[1, 2], [2, 5]])
        for _ in range(3):
            book.redo()
        self.assertEqual((book.form(), book.log()), expected)

    def test_no_list_occurs_twice(self):
        row = [0, 0]
        book = FormBook(3, [row, row])
        unit = [[1, 0], [0, 1]]
        for deed in (("change", unit), ("change", unit), ("beside", [row, row]), ("only", [0, 1, 2])):
            book.do(deed)
        found = [book.form(), book.form(), book.log(), book.log(), book.pieces()]
        lists = []

        def collect(value):
            if isinstance(value, list):
                lists.append(value)
            if isinstance(value, (list, tuple)):
                for item in value:
                    collect(item)

        collect(found)
        self.assertEqual(len({id(item) for item in lists}), len(lists))
        self.assertFalse([item for item in lists if item is row or item is unit])

    def test_copies_go_their_own_way(self):
        book = FormBook(3, FORM)
        book.do(("width", 4))
        book.do(("plain",))
        book.undo()
        other = book.copy()
        self.assertIsNot(other, book)
        self.assertIs(type(other), FormBook)
        self.assertEqual(other, book)
        other.redo()
        self.assertEqual(other.log(), [("width", 4), ("plain",)])
        self.assertEqual(book.log(), [("width", 4)])
        self.assertFalse(other == book)
        book.do(("beside", [[3]]))
        self.assertEqual(len(other.form()), 2)
        self.assertRaises(NothingToRedo, book.redo)
        other.undo()
        other.undo()
        self.assertEqual((other.width(), other.log()), (3, []))
        self.assertEqual((book.width(), len(book.log())), (4, 2))
        other.redo()
        other.redo()
        self.assertEqual(other.form(), rows_of([(0, 1), (0, 1)], 2))

    def test_equal_exactly_if_widths_forms_and_logs_are(self):
        def book(width, form, *deeds):
            made = FormBook(width, form)
            for deed in deeds:
                made.do(deed)
            return made

        unit = [[1, 0], [0, 1]]
        books = [
            book(3, FORM), book(4, FORM), book(3, unit), book(3, FORM, ("width", 3)), book(3, FORM, ("width", 4)),
            book(3, FORM, ("change", unit)), book(3, FORM, ("plain",)), book(3, unit, ("plain",)), book(4, FORM, ("width", 3)),
            book(3, FORM, ("only", [0, 1])), book(3, FORM, ("width", 3), ("width", 3)), book(3, FORM, ("change", [[-1, 0], [0, -1]])),
            book(3, [[1]]), book(3, [[1]], ("beside", [[1]])), book(3, [[1]], ("beside", [[1]]), ("only", [0])),
        ]
        for i, one in enumerate(books):
            for j, other in enumerate(books):
                told = (one.width(), one.form(), one.log()) == (other.width(), other.form(), other.log())
                self.assertIs(one == other, told)
                self.assertIs(one != other, not told)
                # Both lead a form to itself, from other beginnings.
                self.assertIs(told, i == j or {i, j} == {3, 8} or {i, j} == {6, 7}, (i, j))
        undone = books[4].copy()
        undone.undo()
        self.assertIs(undone == books[0], True)
        for other in (None, True, 3, "book", (3, FORM), [3, FORM], InvalidDeed(1), {}):
            self.assertIs(books[0] == other, False)
            self.assertIs(other == books[0], False)
            self.assertIs(books[0] != other, True)


class Told(unittest.TestCase):

    def test_value_pieces_and_alike(self):
        numbers = Numbers(1421)
        like = {True: 0, False: 0}
        for at in range(200):
            size, width = at % 6 + 1, numbers.one_of((1, 2, 5, 64))
            form = numbers.form(size, numbers.one_of((1, 9, 10 ** 30 - 1)))
            book = FormBook(width, form)
            words = numbers.words(width, size)
            self.assertEqual(book.value(words), slow_value(width, form, words))
            self.assertEqual(book.pieces(), plain_at(width, form))
            other = numbers.form(size, 3) if at % 2 else slow_changed(form, numbers.change(size, 2))
            # The width of the other book tells nothing.
            found = book.alike(FormBook(numbers.between(1, 64), other))
            self.assertIs(found, alike_at(width, form, other))
            like[found] += 1
        self.assertGreater(min(like.values()), 30)

    def test_alike_at_this_books_width(self):
        one, other = FormBook(1, [[1, 0], [0, 1]]), FormBook(2, [[3, 0], [0, 3]])
        self.assertIs(one.alike(other), True)
        self.assertIs(other.alike(one), False)
        self.assertIs(one.alike(FormBook(1, [[1]])), False)
        self.assertIs(FormBook(1, [[0]]).alike(FormBook(1, SIX)), False)
        for wrong in (None, True, 0, [[3, 0], [0, 3]], (2, [[3]]), "", [one], InvalidDeed(one)):
            with self.assertRaises(InvalidDeed) as found:
                one.alike(wrong)
            self.assertIs(found.exception.value, wrong)

    def test_words_are_those_of_the_form_and_the_width_now(self):
        book = FormBook(2, FORM)
        for wrong in (None, True, [], [1], [1, 4], [1, -1], [1, True], (1, 1), [1, 1, 1], "11", [1, None], book):
            with self.assertRaises(InvalidWords) as found:
                book.value(wrong)
            self.assertIs(found.exception.value, wrong)
        self.assertEqual(book.value([3, 3]), 90 % 4)
        book.do(("width", 3))
        self.assertEqual(book.value([1, 4]), 1)
        book.do(("only", [0]))
        self.assertEqual(book.value([7]), 1)
        book.undo()
        self.assertRaises(InvalidWords, book.value, [7])

    def test_changes_and_plain_never_change_pieces(self):
        numbers = Numbers(1422)
        for at in range(80):
            size = at % 6 + 1
            book = FormBook(numbers.one_of((1, 2, 3, 4, 9, 64)), numbers.form(size, numbers.one_of((1, 9, 2 ** 40))))
            pieces = book.pieces()
            start = book.copy()
            for _ in range(6):
                book.do(("plain",) if numbers.below(3) == 0 else ("change", numbers.change(size, 2)))
                self.assertEqual(book.pieces(), pieces)
                self.assertIs(book.alike(start), True)
            self.assertLessEqual(unknowns_in(pieces), size)
            for _ in range(6):
                book.undo()
                self.assertEqual(book.pieces(), pieces)
            self.assertEqual(book, start)


if __name__ == "__main__":
    unittest.main()
