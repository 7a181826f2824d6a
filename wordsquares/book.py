"""A live book, which keeps a width and a form and changes them by deeds."""

from wordsquares.alike import alike_at
from wordsquares.checks import check_width
from wordsquares.deeds import after_deed, can_be_done, copied, copied_deed
from wordsquares.errors import InvalidDeed, NothingToRedo, NothingToUndo
from wordsquares.forms import check_form, value_at
from wordsquares.plain import plain_at


class FormBook:
    """A width and a form, with the deeds that are done and those that are taken back."""

    def __init__(self, width, form):
        check_width(width)
        check_form(form)
        # What was kept ahead of the first deed and behind each of them, also of those that are taken
        # back; none of it is changed once it stands here.
        self._states = [(width, copied(form))]
        self._deeds = []
        self._done = 0

    def __eq__(self, other):
        """Whether the other one is a book with an equal width, form and log."""
        if not isinstance(other, FormBook):
            return False
        return self.width() == other.width() and self.form() == other.form() and self.log() == other.log()

    def width(self):
        """The width that is kept now."""
        return self._states[self._done][0]

    def form(self):
        """The form that is kept now."""
        return copied(self._states[self._done][1])

    def do(self, deed):
        """Do a deed, and forget what was undone."""
        if not can_be_done(self.form(), deed):
            raise InvalidDeed(deed)
        kept = copied_deed(deed)
        self._states = self._states[:self._done + 1] + [after_deed(self.width(), self.form(), kept)]
        self._deeds = self._deeds[:self._done] + [kept]
        self._done = self._done + 1

    def undo(self):
        """Take the last deed back that is not taken back yet."""
        if self._done == 0:
            raise NothingToUndo("no deed is done")
        self._done = self._done - 1

    def redo(self):
        """Do again what was taken back last."""
        if self._done == len(self._deeds):
            raise NothingToRedo("no deed was taken back")
        self._done = self._done + 1

    def log(self):
        """The list of the deeds that are done and not taken back."""
        return [copied_deed(deed) for deed in self._deeds[:self._done]]

    def copy(self):
        """A book that is equal to this one and goes its own way."""
        book = FormBook(self.width(), self.form())
        book._states = list(self._states)
        book._deeds = list(self._deeds)
        book._done = self._done
        return book

    def value(self, words):
        """The value of the form at words."""
        return value_at(self.width(), self.form(), words)

    def pieces(self):
        """The plain pieces of the form at the width."""
        return plain_at(self.width(), self.form())

    def alike(self, other):
        """Whether the form of another book is alike with this one at this book's width."""
        if not isinstance(other, FormBook):
            raise InvalidDeed(other)
        one, form = self.form(), other.form()
        return len(one) == len(form) and alike_at(self.width(), one, form)


def is_deed(book, value):
    """Whether a value is a deed that can be done with a book now."""
    if not isinstance(book, FormBook):
        raise InvalidDeed(book)
    return can_be_done(book.form(), value)
