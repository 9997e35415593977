import unittest

from shelfroutes import errors
from tests.values import everything

WITH_MESSAGE = ("InvalidTable", "InvalidRow", "InvalidBag", "InvalidQuery", "InvalidStore", "InvalidStep",
                "InvalidPlan", "InvalidTransition", "InvalidScheme", "InvalidEvent", "InvalidSnapshot",
                "InvalidTree", "InvalidOperation")
KEEPING = {"ParseError": "line", "Stopped": "index", "Wrong": "certificate"}
OTHERS = {"UnknownName": ("name", KeyError), "UnknownKey": ("key", IndexError),
          "NothingToUndo": ("many", LookupError), "TooMany": ("limit", OverflowError),
          "InvalidNumber": ("value", RuntimeError)}


def error_class(name):
    return vars(errors)[name]


class ErrorClasses(unittest.TestCase):
    def test_all_are_defined_in_the_module(self):
        for name in ("ShelfError",) + WITH_MESSAGE + tuple(KEEPING) + tuple(OTHERS):
            with self.subTest(name=name):
                self.assertEqual(error_class(name).__module__, "shelfroutes.errors")
                self.assertEqual(error_class(name).__name__, name)

    def test_shelf_error_is_derived_from_value_error(self):
        self.assertTrue(issubclass(errors.ShelfError, ValueError))
        self.assertIsInstance(errors.ShelfError("message"), ValueError)

    def test_errors_with_a_message_are_directly_derived_from_shelf_error(self):
        for name in WITH_MESSAGE:
            with self.subTest(name=name):
                self.assertEqual(error_class(name).__bases__, (errors.ShelfError,))
                with self.assertRaises(errors.ShelfError):
                    raise error_class(name)("message")

    def test_errors_that_keep_a_value_are_directly_derived_from_shelf_error(self):
        for name in KEEPING:
            self.assertEqual(error_class(name).__bases__, (errors.ShelfError,), name)

    def test_the_others_are_derived_from_errors_of_python(self):
        for name, (_, base) in OTHERS.items():
            with self.subTest(name=name):
                self.assertTrue(issubclass(error_class(name), base))
                self.assertFalse(issubclass(error_class(name), errors.ShelfError))

    def test_none_is_derived_from_another_one(self):
        names = WITH_MESSAGE + tuple(KEEPING) + tuple(OTHERS)
        for name in names:
            for other in names:
                if name != other:
                    self.assertFalse(issubclass(error_class(name), error_class(other)), (name, other))

    def test_errors_keep_any_value(self):
        attributes = dict(KEEPING)
        for name, (attribute, _) in OTHERS.items():
            attributes[name] = attribute
        for name, attribute in attributes.items():
            for value in everything():
                error = error_class(name)(value)
                self.assertIs(getattr(error, attribute), value, name)
                str(error)

    def test_a_raised_error_still_has_its_value(self):
        with self.assertRaises(KeyError) as caught:
            raise errors.UnknownName(["x"])
        self.assertEqual(caught.exception.name, ["x"])
        with self.assertRaises(ValueError) as caught:
            raise errors.ParseError(None)
        self.assertIsNone(caught.exception.line)


if __name__ == "__main__":
    unittest.main()
