"""Points 3 and 16, and the interface: the refusals."""

import unittest

from leastform.errors import (
    FormError, Full, NoDeed, NoName, NoPath, NoRow, NoSamples, NotLet, NoText, NoValue,
)

WITH_TEXT = (NoPath, NoSamples, NoValue, NoText, NoName, NoDeed, Full, NoRow)
ALL = WITH_TEXT + (NotLet,)


def made(kind):
    return NotLet(("a", 0), "kind") if kind is NotLet else kind("some words")


class Errors(unittest.TestCase):
    def test_there_are_nine_unlike_ones(self):
        self.assertEqual(len(set(ALL)), 9)
        self.assertEqual(len({kind.__name__ for kind in ALL}), 9)

    def test_the_names_are_the_interface_s(self):
        names = ["NoPath", "NoSamples", "NoValue", "NoText", "NoName", "NoDeed", "Full", "NoRow", "NotLet"]
        self.assertEqual([kind.__name__ for kind in ALL], names)
        self.assertEqual(FormError.__name__, "FormError")

    def test_each_is_raised_and_taken_by_its_own_name(self):
        for kind in ALL:
            with self.subTest(kind=kind.__name__):
                with self.assertRaises(kind) as caught:
                    raise made(kind)
                self.assertIs(type(caught.exception), kind)

    def test_each_is_taken_as_form_error_and_as_value_error(self):
        for kind in ALL:
            for above in (FormError, ValueError):
                with self.subTest(kind=kind.__name__, above=above.__name__):
                    with self.assertRaises(above):
                        raise made(kind)

    def test_none_stands_under_another(self):
        for kind in ALL:
            for other in ALL:
                with self.subTest(kind=kind.__name__, other=other.__name__):
                    self.assertEqual(issubclass(kind, other), kind is other)
                    self.assertEqual(isinstance(made(kind), other), kind is other)

    def test_form_error_stands_under_value_error_alone(self):
        self.assertTrue(issubclass(FormError, ValueError))
        for kind in ALL:
            self.assertIsNot(kind, FormError)
            self.assertFalse(issubclass(FormError, kind))
            self.assertFalse(issubclass(kind, (LookupError, TypeError, ArithmeticError)))

    def test_form_error_is_made_with_a_text(self):
        with self.assertRaises(FormError) as caught:
            raise FormError("some words")
        self.assertIs(type(caught.exception), FormError)

    def test_not_let_has_its_fields(self):
        for path, word in (((), "kind"), (("a", 0, "b"), "short"), ((3,), "strange")):
            error = NotLet(path, word)
            self.assertEqual(error.path, path)
            self.assertIs(type(error.path), tuple)
            self.assertEqual(error.word, word)

    def test_two_not_let_keep_their_own_fields(self):
        one = NotLet(("a",), "long")
        other = NotLet((), "few")
        self.assertEqual((one.path, one.word), (("a",), "long"))
        self.assertEqual((other.path, other.word), ((), "few"))

    def test_not_let_takes_its_fields_by_name(self):
        error = NotLet(path=(1,), word="many")
        self.assertEqual((error.path, error.word), ((1,), "many"))


if __name__ == "__main__":
    unittest.main()
