"""The refusals of the interface's part hushduel/errors.py."""

import copy
import unittest

from hushduel import errors

PLAIN = ["NoNumber", "NoText", "TooGreat", "NoPlan", "NoWord", "NoPlace", "NoName", "NoRow"]
ALL = PLAIN + ["NoShares", "Unlike", "Forgets"]


class Refusals(unittest.TestCase):
    def test_the_root_is_a_value_error(self):
        self.assertEqual(errors.DuelError.__bases__, (ValueError,))

    def test_each_stands_straight_under_the_root(self):
        for name in ALL:
            with self.subTest(name):
                self.assertEqual(getattr(errors, name).__bases__, (errors.DuelError,))

    def test_none_stands_under_another(self):
        for first in ALL:
            for second in ALL:
                if first != second:
                    with self.subTest(first=first, second=second):
                        self.assertFalse(issubclass(getattr(errors, first), getattr(errors, second)))

    def test_plain_ones_are_raised_with_words(self):
        for name in PLAIN:
            with self.subTest(name):
                with self.assertRaises(ValueError) as caught:
                    raise getattr(errors, name)("some words")
                self.assertEqual(str(caught.exception), "some words")

    def test_no_shares_keeps_its_way(self):
        for way in [(), (0,), (3, 0, 12)]:
            error = errors.NoShares(way)
            self.assertEqual(error.way, way)
            self.assertIsInstance(error, errors.DuelError)

    def test_unlike_and_forgets_keep_both_ways(self):
        for name in ["Unlike", "Forgets"]:
            with self.subTest(name):
                error = getattr(errors, name)((0,), (1, 2))
                self.assertEqual(error.one, (0,))
                self.assertEqual(error.other, (1, 2))
                self.assertIsInstance(error, errors.DuelError)

    def test_the_fields_belong_to_each_object(self):
        first = errors.Unlike((0,), (1,))
        errors.Unlike((2,), (3,))
        self.assertEqual((first.one, first.other), ((0,), (1,)))
        again = copy.copy(first)
        self.assertEqual((again.one, again.other), ((0,), (1,)))


if __name__ == "__main__":
    unittest.main()
