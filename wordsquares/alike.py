"""Which forms are alike, at a width or at every width."""

from wordsquares.checks import check_width
from wordsquares.eighths import settled_at
from wordsquares.errors import InvalidForm, Unlike
from wordsquares.forms import check_form, check_two_forms
from wordsquares.left import symbol_at
from wordsquares.scales import key_of
from wordsquares.symbols import symbol
from wordsquares.told_way import exact_pieces
from wordsquares.widths import least_width


def are_alike(one, other):
    """Whether two forms are alike at every width."""
    check_two_forms(one, other)
    return symbol(one) == symbol(other)


def symbol_of_form_at(width, form):
    """A symbol that forms have in common exactly if they are alike at a width."""
    return symbol_at(width, exact_pieces(form), len(form))


def alike_at(width, one, other):
    """Whether two forms are alike at a width."""
    check_width(width)
    check_two_forms(one, other)
    return symbol_of_form_at(width, one) == symbol_of_form_at(width, other)


def parting_width(one, other):
    """The least whole number in the place of a width at which two forms are not alike, None if there is none."""
    check_two_forms(one, other)
    if symbol(one) == symbol(other):
        return None
    low, high = exact_pieces(one), exact_pieces(other)
    size = len(one)

    def are_parted(width):
        """Whether the forms are not alike at a width, and so at no greater one."""
        return symbol_at(width, low, size) != symbol_at(width, high, size)

    return least_width(settled_at(low + high), are_parted)


def check_forms(forms):
    """Refuse what is no list of forms that all have as many unknowns."""
    if not isinstance(forms, list):
        raise InvalidForm(forms)
    for form in forms:
        check_form(form)
    for form in forms:
        if len(form) != len(forms[0]):
            raise Unlike(form)


def groups_by(symbols):
    """The list of the lists of the places of equal symbols."""
    groups = {}
    for at, found in enumerate(symbols):
        key = key_of(found)
        groups[key] = groups.get(key, []) + [at]
    return list(groups.values())


def grouped(forms):
    """The list of the lists of the numbers of the forms that are alike at every width."""
    check_forms(forms)
    return groups_by([symbol(form) for form in forms])


def grouped_at(width, forms):
    """The list of the lists of the numbers of the forms that are alike at a width."""
    check_width(width)
    check_forms(forms)
    return groups_by([symbol_of_form_at(width, form) for form in forms])
