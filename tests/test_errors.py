"""waitlists/errors.py and point 5: the error classes."""

import unittest

from waitlists import errors

TEXT_ERRORS = [
    "InvalidNodes", "InvalidRun", "UnknownNode", "InvalidReceivers", "UnknownMessage", "InvalidIndex", "InvalidPair",
    "InvalidLabel", "InvalidProposal", "Needed", "NotNeeded", "NotInTransit", "InvalidText", "InvalidCommand", "NoNet",
]
VALUE_ERRORS = [("NotCausal", "index"), ("TooMany", "many")]
ALL_ERRORS = TEXT_ERRORS + [name for name, _ in VALUE_ERRORS]


class ErrorsTest(unittest.TestCase):

    def test_base_is_a_value_error(self):
        self.assertEqual(errors.WaitError.__bases__, (ValueError,))
        self.assertEqual(str(errors.WaitError("some text")), "some text")

    def test_each_stands_directly_under_the_base(self):
        for name in ALL_ERRORS:
            error = getattr(errors, name)
            self.assertEqual(error.__bases__, (errors.WaitError,), name)
            self.assertEqual(error.__module__, "waitlists.errors")

    def test_each_is_of_its_own_class_alone(self):
        for name in ALL_ERRORS:
            error = getattr(errors, name)("x")
            same = [other for other in ALL_ERRORS if isinstance(error, getattr(errors, other))]
            self.assertEqual(same, [name])
            self.assertIsInstance(error, errors.WaitError)
            self.assertIsInstance(error, ValueError)

    def test_text_is_kept(self):
        for name in TEXT_ERRORS:
            for text in ("", "some text", "a 'quoted' text", "100"):
                self.assertEqual(str(getattr(errors, name)(text)), text)

    def test_value_is_kept(self):
        for name, field in VALUE_ERRORS:
            for value in (0, 4, 13, 10 ** 17):
                self.assertEqual(vars(getattr(errors, name)(value)), {field: value})

    def test_errors_can_be_raised_and_caught_by_name(self):
        for name in ALL_ERRORS:
            error = getattr(errors, name)
            with self.assertRaises(error):
                raise error("x")


if __name__ == "__main__":
    unittest.main()
