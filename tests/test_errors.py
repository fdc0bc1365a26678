import unittest

from mendnumber import errors

WITH_MESSAGE = ("InvalidWord", "InvalidPrices", "InvalidChange", "InvalidForm", "InvalidRow", "InvalidOperation")
KEPT = {
    "InvalidNumber": (IndexError, "given"),
    "UnknownName": (KeyError, "wanted"),
    "NothingToUndo": (LookupError, "many"),
    "TooMany": (OverflowError, "limit"),
    "Refused": (ArithmeticError, "claim"),
}


class ErrorsTest(unittest.TestCase):
    def test_mend_error_derives_from_value_error(self):
        self.assertEqual(errors.MendError.__bases__, (ValueError,))
        self.assertEqual(str(errors.MendError("told")), "told")

    def test_errors_with_a_message(self):
        for name in WITH_MESSAGE:
            with self.subTest(name):
                error = getattr(errors, name)
                self.assertEqual(error.__bases__, (errors.MendError,))
                self.assertEqual(str(error("told")), "told")

    def test_parse_error_keeps_at(self):
        self.assertEqual(errors.ParseError.__bases__, (errors.MendError,))
        self.assertEqual(errors.ParseError(3).at, 3)
        self.assertEqual(errors.ParseError(at=0).at, 0)

    def test_errors_of_builtin_classes_keep_their_argument(self):
        for name, (base, kept) in KEPT.items():
            error = getattr(errors, name)
            with self.subTest(name):
                self.assertEqual(error.__bases__, (base,))
                self.assertNotIsInstance(error(1), errors.MendError)
                for value in (0, None, True, "told", (1, 2), 10 ** 100):
                    self.assertIs(getattr(error(value), kept), value)

    def test_what_is_kept_is_not_copied(self):
        given = [1]
        self.assertIs(errors.InvalidNumber(given).given, given)

    def test_each_error_can_be_raised_and_has_a_message(self):
        for name in (*WITH_MESSAGE, "MendError", "ParseError", *KEPT):
            error = getattr(errors, name)
            with self.subTest(name), self.assertRaises(error) as caught:
                raise error("told")
            self.assertTrue(str(caught.exception))
