"""The errors that the package raises."""


class FormError(ValueError):
    """What all errors of the package are."""


class InvalidNumber(FormError):
    """A number is not one of those that are asked for."""

    def __init__(self, value=None):
        self.value = value


class InvalidWidth(FormError):
    """A value is no width."""

    def __init__(self, value=None):
        self.value = value


class InvalidWord(FormError):
    """A value is no word of the width."""

    def __init__(self, value=None):
        self.value = value


class InvalidWords(FormError):
    """A value is no list of as many words of the width as there are unknowns."""

    def __init__(self, value=None):
        self.value = value


class InvalidForm(FormError):
    """A value is no form, or not one that is asked for."""

    def __init__(self, value=None):
        self.value = value


class InvalidChange(FormError):
    """A value is no change, or not one of as many unknowns as are asked for."""

    def __init__(self, value=None):
        self.value = value


class InvalidPieces(FormError):
    """A value is no list of pieces, or not one that is asked for."""

    def __init__(self, value=None):
        self.value = value


class InvalidSymbol(FormError):
    """A value is no symbol."""

    def __init__(self, value=None):
        self.value = value


class InvalidLine(FormError):
    """A value is no line of a width and a form."""

    def __init__(self, value=None):
        self.value = value


class InvalidDeed(FormError):
    """A value is no deed that can be done now, or no book."""

    def __init__(self, value=None):
        self.value = value


class Unlike(FormError):
    """A form has another number of unknowns than the one ahead of it."""

    def __init__(self, value=None):
        self.value = value


class TooMany(FormError):
    """There are more of something than can be gone through."""

    def __init__(self, value=None):
        self.value = value


class NothingToUndo(FormError):
    """No deed is done that is not taken back yet."""


class NothingToRedo(FormError):
    """No deed was taken back that could be done again."""
