"""Promise [2] and the section of the interface on handrounds/errors.py."""

import unittest

from handrounds import errors
from handrounds.errors import (
    BadChange, BadLetter, BadName, BadNet, BadRound, BadStop, NotInTime, RoundError, TooFew, UnknownField, UnknownNode)

# Each class with the attribute that it stores and two values of it.
STORING = (
    (BadName, "name", "Anna", ""),
    (BadRound, "part", "period", "other"),
    (BadStop, "index", 0, 8),
    (BadNet, "name", "anna", "mill"),
    (UnknownNode, "name", "@mill", "bert"),
    (BadChange, "index", 3, 0),
    (BadLetter, "name", "news", "a b\nc"),
    (TooFew, "count", 0, 10 ** 30),
    (UnknownField, "name", "many", "x" * 60),
)
KINDS = tuple(row[0] for row in STORING) + (NotInTime,)


class Attributes(unittest.TestCase):
    def test_by_position(self):
        for kind, attribute, one, two in STORING:
            for value in (one, two):
                with self.subTest(kind=kind.__name__, value=value):
                    self.assertEqual(vars(kind(value)), {attribute: value})

    def test_by_keyword(self):
        for kind, attribute, one, two in STORING:
            for value in (one, two):
                with self.subTest(kind=kind.__name__, value=value):
                    self.assertEqual(vars(kind(**{attribute: value})), {attribute: value})

    def test_the_value_is_not_copied_or_converted(self):
        for kind, attribute, one, _ in STORING:
            with self.subTest(kind=kind.__name__):
                self.assertIs(type(getattr(kind(one), attribute)), type(one))

    def test_not_in_time_takes_and_stores_nothing(self):
        self.assertEqual(vars(NotInTime()), {})

    def test_each_object_has_its_own_value(self):
        first, second = BadStop(1), BadStop(2)
        self.assertEqual((first.index, second.index), (1, 2))

    def test_each_can_be_shown(self):
        for kind, attribute, one, _ in STORING:
            with self.subTest(kind=kind.__name__):
                self.assertIsInstance(str(kind(one)), str)
                self.assertIsInstance(str(kind(**{attribute: one})), str)
        self.assertIsInstance(str(NotInTime()), str)


class Kinds(unittest.TestCase):
    def test_the_base_class(self):
        self.assertEqual(RoundError.__bases__, (ValueError,))

    def test_all_are_direct_subclasses(self):
        for kind in KINDS:
            with self.subTest(kind=kind.__name__):
                self.assertEqual(kind.__bases__, (RoundError,))

    def test_each_is_caught_as_its_own_kind_and_no_other(self):
        for row in STORING + ((NotInTime, "", None, None),):
            kind = row[0]
            told = kind() if kind is NotInTime else kind(row[2])
            self.assertIsInstance(told, RoundError)
            self.assertIsInstance(told, ValueError)
            with self.subTest(kind=kind.__name__):
                self.assertEqual([other for other in KINDS if isinstance(told, other)], [kind])

    def test_they_can_be_raised_and_caught_by_the_base_class(self):
        for kind, attribute, one, _ in STORING:
            with self.subTest(kind=kind.__name__):
                with self.assertRaises(RoundError) as caught:
                    raise kind(one)
                self.assertEqual(getattr(caught.exception, attribute), one)
        with self.assertRaises(ValueError):
            raise NotInTime()

    def test_these_ten_and_the_base_class_are_all(self):
        found = [kind for kind in vars(errors).values() if isinstance(kind, type)]
        self.assertCountEqual(found, KINDS + (RoundError,))


if __name__ == "__main__":
    unittest.main()
