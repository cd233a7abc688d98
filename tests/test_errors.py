import unittest

from humpcodes import errors, wrongs
from humpcodes.errors import (
    CodeError, Full, Infinite, InvalidCount, InvalidMark, InvalidName, InvalidPeriod, InvalidPermutation,
    InvalidPoint, InvalidWord, NameTaken, Neighbours, NotACertificate, NotACode, NotAdmissible, NotForced, SameCode,
    TooLong, TooMany, UnknownName,
)
from humpcodes.wrongs import InvalidFraction, InvalidSize, NotARecord, SameGrowth
from tests.values import NO_CODES, NO_PERIODS

WITH_MESSAGE = [
    NotACode, NotAdmissible, InvalidPeriod, InvalidCount, InvalidWord, InvalidPoint, InvalidPermutation, SameCode,
    Neighbours, NotForced, TooLong, TooMany, Infinite, NotACertificate,
]
OF_GROWTHS = [InvalidFraction, InvalidSize, SameGrowth, NotARecord]
WITH_ARGUMENT = [
    (InvalidName, "name"), (NameTaken, "name"), (UnknownName, "name"), (Full, "limit"), (InvalidMark, "number"),
]


class ErrorsTest(unittest.TestCase):
    def test_base_class(self):
        self.assertEqual(CodeError.__bases__, (ValueError,))
        with self.assertRaises(ValueError):
            raise CodeError("some text")

    def test_each_class_is_a_direct_subclass_of_code_error(self):
        for error in WITH_MESSAGE + [error for error, _ in WITH_ARGUMENT]:
            with self.subTest(error=error.__name__):
                self.assertEqual(error.__bases__, (CodeError,))
                self.assertEqual(error.__module__, "humpcodes.errors")
                self.assertIs(getattr(errors, error.__name__), error)

    def test_errors_of_growths(self):
        for error in OF_GROWTHS:
            with self.subTest(error=error.__name__):
                self.assertEqual(error.__bases__, (CodeError,))
                self.assertEqual(error.__module__, "humpcodes.wrongs")
                self.assertIs(getattr(wrongs, error.__name__), error)
        self.assertEqual(len(set(OF_GROWTHS)), 4)

    def test_classes_are_distinct(self):
        self.assertEqual(len(set(WITH_MESSAGE + [error for error, _ in WITH_ARGUMENT])), 19)

    def test_created_with_a_message(self):
        for error in WITH_MESSAGE + OF_GROWTHS:
            with self.subTest(error=error.__name__):
                self.assertIn("some text", str(error("some text")))
                with self.assertRaises(CodeError):
                    raise error("some text")

    def test_argument_is_kept(self):
        for error, attribute in WITH_ARGUMENT:
            for place, value in enumerate(["abc", 12] + NO_CODES + NO_PERIODS):
                with self.subTest(error=error.__name__, place=place):
                    self.assertIs(getattr(error(value), attribute), value)

    def test_argument_is_kept_when_raised(self):
        for error, attribute in WITH_ARGUMENT:
            with self.subTest(error=error.__name__):
                value = ["a", (1, None)]
                with self.assertRaises(error) as caught:
                    raise error(value)
                self.assertIs(getattr(caught.exception, attribute), value)
                self.assertEqual(value, ["a", (1, None)])
                self.assertIs(type(str(caught.exception)), str)

    def test_each_object_has_its_own_argument(self):
        for error, attribute in WITH_ARGUMENT:
            with self.subTest(error=error.__name__):
                one, other = error("one"), error("other")
                self.assertEqual(getattr(one, attribute), "one")
                self.assertEqual(getattr(other, attribute), "other")
