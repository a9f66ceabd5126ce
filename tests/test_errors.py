"""Points [2] and the interface of errors.py."""

import unittest

from mailrings import errors
from mailrings.errors import MailError
from tests.values import OTHER_STRINGS, OTHER_VALUES

ATTRIBUTES = {
    "BadName": "value",
    "BadMessage": "value",
    "BadCondition": "value",
    "BadRule": "value",
    "BadHouse": "value",
    "UnknownName": "name",
    "TakenName": "name",
    "BadWish": "value",
    "BadPlace": "value",
    "BadText": "value",
    "BadCommand": "command",
    "Endless": "ring",
    "NothingWaiting": "number",
}


class ErrorsTest(unittest.TestCase):
    def test_mail_error_is_a_value_error(self):
        self.assertTrue(issubclass(MailError, ValueError))

    def test_the_others_are_direct_subclasses(self):
        for word in ATTRIBUTES:
            with self.subTest(word):
                self.assertEqual(getattr(errors, word).__bases__, (MailError,))

    def test_all_are_defined_in_the_file(self):
        for word in ["MailError", *ATTRIBUTES]:
            with self.subTest(word):
                self.assertEqual(getattr(errors, word).__module__, "mailrings.errors")

    def test_the_very_value_is_kept(self):
        for word, attribute in ATTRIBUTES.items():
            for value in (*OTHER_VALUES, *OTHER_STRINGS, "ann"):
                with self.subTest(word, value=value):
                    error = getattr(errors, word)(value)
                    self.assertIs(getattr(error, attribute), value)
                    self.assertEqual(list(vars(error)), [attribute])

    def test_a_list_is_not_copied(self):
        for word, attribute in ATTRIBUTES.items():
            with self.subTest(word):
                value = ["a", []]
                error = getattr(errors, word)(value)
                value.append("b")
                self.assertIs(getattr(error, attribute), value)
                self.assertEqual(getattr(error, attribute), ["a", [], "b"])

    def test_the_value_is_passed_by_its_name(self):
        for word, attribute in ATTRIBUTES.items():
            with self.subTest(word):
                value = ["a"]
                self.assertIs(getattr(getattr(errors, word)(**{attribute: value}), attribute), value)

    def test_another_number_of_arguments(self):
        for word in ATTRIBUTES:
            with self.subTest(word):
                self.assertRaises(TypeError, getattr(errors, word))
                self.assertRaises(TypeError, getattr(errors, word), 1, 2)

    def test_raised_and_caught(self):
        for word in ATTRIBUTES:
            with self.subTest(word):
                error = getattr(errors, word)(["a"])
                with self.assertRaises(MailError) as caught:
                    raise error
                self.assertIs(caught.exception, error)
        with self.assertRaises(ValueError):
            raise MailError("wrong")


if __name__ == "__main__":
    unittest.main()
