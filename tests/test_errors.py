import unittest

from healwires import errors

WITH_VALUE = [
    "InvalidNumber", "InvalidLink", "InvalidContents", "InvalidEvent", "InvalidRun", "InvalidBit", "InvalidView",
    "InvalidWeb", "InvalidWords", "InvalidText", "InvalidDeed", "Unlike", "TooMany",
]
WITHOUT = ["NothingToUndo", "NothingToRedo"]


class Errors(unittest.TestCase):
    """Point 5."""

    def test_wire_error_is_made_like_a_value_error(self):
        self.assertEqual(errors.WireError.__bases__, (ValueError,))
        self.assertEqual(errors.WireError("a", 1).args, ("a", 1))
        self.assertEqual(str(errors.WireError("a")), "a")
        self.assertFalse(hasattr(errors.WireError("a"), "value"))
        errors.WireError()

    def test_all_others_stand_directly_under_it(self):
        for name in WITH_VALUE + WITHOUT:
            self.assertEqual(getattr(errors, name).__bases__, (errors.WireError,), name)
            self.assertEqual(getattr(errors, name).__module__, "healwires.errors", name)

    def test_the_value_by_position_by_name_or_with_nothing(self):
        for name in WITH_VALUE:
            error, value = getattr(errors, name), [1, ("a",)]
            self.assertIs(error(value).value, value, name)
            self.assertIs(error(value=value).value, value, name)
            self.assertIsNone(error().value, name)
            with self.assertRaises(TypeError):
                error(1, 2)

    def test_no_field_without_a_value(self):
        for name in WITHOUT:
            self.assertFalse(hasattr(getattr(errors, name)(), "value"), name)

    def test_they_can_be_raised_and_caught_as_value_errors(self):
        for name in WITH_VALUE + WITHOUT:
            with self.assertRaises(ValueError):
                raise getattr(errors, name)()


if __name__ == "__main__":
    unittest.main()
