"""The refusals of moot.errors."""

import unittest

from moot.errors import (
    Barred, ChamberError, NoAside, NoChange, NoFit, NoMatter, NoName, NoNumber, NoRow, Nothing, NotLater, NotYet,
    TooMany,
)

PLAIN = [NoFit, NoMatter, NoChange, Nothing, TooMany, NoAside, NoNumber]
WITH_VALUE = [
    (Barred, "bar", 4), (Barred, "bar", -1), (NotLater, "sitting", 1), (NotYet, "sitting", 999999999),
    (NoRow, "row", 1), (NoName, "name", "north"),
]
ALL = PLAIN + [Barred, NotLater, NotYet, NoRow, NoName]


class TestErrors(unittest.TestCase):

    def test_there_are_twelve(self):
        self.assertEqual(len(set(ALL)), 12)

    def test_each_is_a_chamber_error_and_a_value_error(self):
        self.assertTrue(issubclass(ChamberError, ValueError))
        for refusal in ALL:
            with self.subTest(refusal=refusal.__name__):
                self.assertTrue(issubclass(refusal, ChamberError))
                self.assertIsNot(refusal, ChamberError)

    def test_none_stands_under_another(self):
        for one in ALL:
            for other in ALL:
                if one is not other:
                    with self.subTest(one=one.__name__, other=other.__name__):
                        self.assertFalse(issubclass(one, other))

    def test_values_are_set_when_made(self):
        for refusal, name, value in WITH_VALUE:
            with self.subTest(refusal=refusal.__name__, value=value):
                self.assertEqual(getattr(refusal(value), name), value)

    def test_two_objects_keep_their_own_values(self):
        one, other = NoRow(1), NoRow(2)
        self.assertEqual((one.row, other.row), (1, 2))

    def test_each_is_caught_as_what_it_stands_under(self):
        made = [refusal("words") for refusal in PLAIN] + [refusal(value) for refusal, name, value in WITH_VALUE]
        for error in made:
            for above in (type(error), ChamberError, ValueError):
                with self.subTest(error=type(error).__name__, above=above.__name__):
                    with self.assertRaises(above) as caught:
                        raise error
                    self.assertIs(caught.exception, error)


if __name__ == "__main__":
    unittest.main()
