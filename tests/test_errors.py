"""Point 5: the classes of errors."""

import unittest

from wordsquares import errors

WITH_VALUE = (
    "InvalidNumber", "InvalidWidth", "InvalidWord", "InvalidWords", "InvalidForm", "InvalidChange",
    "InvalidPieces", "InvalidSymbol", "InvalidLine", "InvalidDeed", "Unlike", "TooMany",
)
WITHOUT_VALUE = ("NothingToUndo", "NothingToRedo")


class Errors(unittest.TestCase):

    def test_form_error_is_a_value_error_without_a_field(self):
        self.assertEqual(errors.FormError.__bases__, (ValueError,))
        self.assertEqual(vars(errors.FormError()), {})

    def test_all_others_stand_directly_under_it(self):
        for name in WITH_VALUE + WITHOUT_VALUE:
            self.assertEqual(getattr(errors, name).__bases__, (errors.FormError,), name)

    def test_each_stands_in_its_module_under_its_name(self):
        for name in ("FormError",) + WITH_VALUE + WITHOUT_VALUE:
            made = getattr(errors, name)
            self.assertEqual((made.__name__, made.__module__), (name, "wordsquares.errors"))

    def test_made_by_position(self):
        for name in WITH_VALUE:
            for value in ([1, [2]], None, 0, True, "x", (), {"a": 1}):
                self.assertIs(getattr(errors, name)(value).value, value, name)

    def test_made_by_name(self):
        for name in WITH_VALUE:
            value = [name]
            self.assertIs(getattr(errors, name)(value=value).value, value, name)

    def test_made_with_nothing(self):
        for name in WITH_VALUE:
            self.assertIsNone(getattr(errors, name)().value, name)

    def test_the_value_is_the_only_field(self):
        for name in WITH_VALUE:
            self.assertEqual(vars(getattr(errors, name)(7)), {"value": 7}, name)

    def test_no_field_where_nothing_can_be_undone_or_redone(self):
        for name in WITHOUT_VALUE:
            self.assertEqual(vars(getattr(errors, name)()), {}, name)
            self.assertFalse(hasattr(getattr(errors, name)(), "value"), name)

    def test_no_more_than_one_value_is_taken(self):
        for name in WITH_VALUE:
            with self.assertRaises(TypeError):
                getattr(errors, name)(1, 2)

    def test_raised_and_caught_by_each_of_its_classes(self):
        for name in WITH_VALUE + WITHOUT_VALUE:
            for caught in (getattr(errors, name), errors.FormError, ValueError):
                with self.assertRaises(caught):
                    raise getattr(errors, name)()


if __name__ == "__main__":
    unittest.main()
