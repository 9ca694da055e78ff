"""Point [5]: the errors."""

from skipcounts import errors
from tests import support

WITH_FIELD = [
    "InvalidNumber", "InvalidText", "InvalidWord", "InvalidLetters", "InvalidList", "InvalidSum", "InvalidTable",
    "InvalidRules", "InvalidMachine", "InvalidFinite", "InvalidKept", "InvalidSaying", "InvalidLines", "InvalidDeed",
    "Unlike", "TooLong", "TooMany",
]
WITHOUT_FIELD = ["NothingToUndo", "NothingToRedo"]


class Errors(support.TestCase):
    def test_skip_error(self):
        self.assertEqual(errors.SkipError.__bases__, (ValueError,))

    def test_each_is_directly_under_it_with_a_field(self):
        for name in WITH_FIELD:
            error = getattr(errors, name)
            self.assertEqual(error.__bases__, (errors.SkipError,), name)
            self.assertIsNone(error().value)
            thing = ["thing"]
            self.assertIs(error(thing).value, thing)
            self.assertIs(error(value=thing).value, thing)
            self.assertIn("__init__", vars(error))
            with self.assertRaises(ValueError):
                raise error(thing)

    def test_two_without_a_field(self):
        for name in WITHOUT_FIELD:
            error = getattr(errors, name)
            self.assertEqual(error.__bases__, (errors.SkipError,), name)
            self.assertFalse(hasattr(error(), "value"))

    def test_a_number_of_very_many_figures_can_be_told(self):
        self.assertIsInstance(str(errors.TooLong(10 ** 5000)), str)
