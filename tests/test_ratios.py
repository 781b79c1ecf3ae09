"""Promises [4] and [5], and [2] where it speaks of fractions."""

import math
import random
import unittest
from collections import namedtuple
from fractions import Fraction

from hushduel import ratios
from hushduel.errors import NoNumber, NoText

SMALL = range(-12, 13)
THIRTY = 10 ** 29
LARGE = [THIRTY, -THIRTY, THIRTY + 1, 10 ** 30 - 1, -(10 ** 30 - 1), 7 * 10 ** 28 * 3, 2 ** 98, 3 ** 61]
NO_TEXTS = [None, True, False, 0, 3, (3, 1), [], ["3"], {}, {"3": 1}, b"3", object(), str, len]


def pair(value):
    return (value.numerator, value.denominator)


def some_ratios(seed, count, most):
    source = random.Random(seed)
    return [pair(Fraction(source.randint(-most, most), source.randint(1, most))) for step in range(count)]


SOME = [(0, 1), (1, 1), (-1, 1), (1, 2), (-1, 2), (3, 2), (-7, 3)] + some_ratios(4, 20, 50) + some_ratios(5, 12, 10 ** 30)


class Checked(unittest.TestCase):
    def check_whole_pair(self, told):
        self.assertIs(type(told), tuple)
        self.assertEqual([type(each) for each in told], [int, int])
        self.assertGreaterEqual(told[1], 1)
        self.assertEqual(math.gcd(told[0], told[1]), 1)
        self.assertIs(ratios.is_ratio(told), True)

    def check_told(self, told, wanted):
        self.check_whole_pair(told)
        self.assertEqual(told, pair(wanted))


class Made(Checked):
    def test_small_numbers_of_either_sign(self):
        for top in SMALL:
            for bottom in SMALL:
                if bottom != 0:
                    with self.subTest(top=top, bottom=bottom):
                        self.check_told(ratios.ratio(top, bottom), Fraction(top, bottom))

    def test_written_out(self):
        self.assertEqual(ratios.ratio(6, 4), (3, 2))
        self.assertEqual(ratios.ratio(6, -4), (-3, 2))
        self.assertEqual(ratios.ratio(-6, -4), (3, 2))
        self.assertEqual(ratios.ratio(0, -7), (0, 1))
        self.assertEqual(ratios.ratio(5, 5), (1, 1))

    def test_numbers_of_thirty_figures_and_far_more(self):
        for top in LARGE + [0, 1, -6, 10 ** 3999 + 6]:
            for bottom in LARGE + [1, -6, -(10 ** 3999) - 3]:
                with self.subTest(top=top % 1000, bottom=bottom % 1000):
                    self.check_told(ratios.ratio(top, bottom), Fraction(top, bottom))

    def test_a_second_of_nought_is_refused(self):
        for top in [0, 1, -1, 5, THIRTY]:
            with self.assertRaises(NoNumber):
                ratios.ratio(top, 0)

    def test_what_is_no_whole_number_is_refused(self):
        for wrong in [True, False, None, "1", (1, 1), [1]]:
            with self.subTest(wrong=wrong):
                with self.assertRaises(NoNumber):
                    ratios.ratio(wrong, 1)
                with self.assertRaises(NoNumber):
                    ratios.ratio(1, wrong)


class Reckoned(Checked):
    def test_sum_difference_product(self):
        for first in SOME:
            for second in SOME:
                with self.subTest(first=first, second=second):
                    self.check_told(ratios.plus(first, second), Fraction(*first) + Fraction(*second))
                    self.check_told(ratios.minus(first, second), Fraction(*first) - Fraction(*second))
                    self.check_told(ratios.times(first, second), Fraction(*first) * Fraction(*second))

    def test_one_over_another(self):
        for first in SOME:
            for second in SOME:
                if second[0] != 0:
                    with self.subTest(first=first, second=second):
                        self.check_told(ratios.over(first, second), Fraction(*first) / Fraction(*second))

    def test_over_nought_is_refused(self):
        for first in SOME:
            with self.assertRaises(NoNumber):
                ratios.over(first, (0, 1))

    def test_under(self):
        for first in SOME:
            for second in SOME + [first]:
                with self.subTest(first=first, second=second):
                    self.assertIs(ratios.under(first, second), Fraction(*first) < Fraction(*second))
        self.assertIs(ratios.under((1, 3), (1, 2)), True)
        self.assertIs(ratios.under((1, 2), (1, 3)), False)
        self.assertIs(ratios.under((-1, 2), (-1, 3)), True)
        self.assertIs(ratios.under((1, 2), (1, 2)), False)

    def test_numbers_told_are_as_long_as_they_need_to_be(self):
        first = (10 ** 2500 + 1, 10 ** 2499 + 9)
        first = pair(Fraction(*first))
        self.check_told(ratios.times(first, first), Fraction(*first) ** 2)
        self.check_told(ratios.plus(first, (1, 3)), Fraction(*first) + Fraction(1, 3))


class Totals(Checked):
    def test_the_list_without_fractions(self):
        self.assertEqual(ratios.total([]), (0, 1))
        self.check_whole_pair(ratios.total([]))

    def test_lists(self):
        self.assertEqual(ratios.total([(1, 2)]), (1, 2))
        self.assertEqual(ratios.total([(1, 2), (1, 3), (1, 6)]), (1, 1))
        self.assertEqual(ratios.total([(1, 2), (-1, 2)]), (0, 1))
        for length in range(len(SOME) + 1):
            self.check_told(ratios.total(SOME[:length]), sum([Fraction(*each) for each in SOME[:length]], Fraction(0)))

    def test_three_hundred_fractions(self):
        some = some_ratios(6, 300, 40)
        self.check_told(ratios.total(some), sum([Fraction(*each) for each in some]))

    def test_the_list_stays_as_it_was_and_is_told_the_same_again(self):
        some = [(1, 2), (1, 3), (-5, 1)]
        first = ratios.total(some)
        self.assertEqual(some, [(1, 2), (1, 3), (-5, 1)])
        self.assertEqual(ratios.total(some), first)
        some.append((1, 1))
        self.assertEqual(first, (-25, 6))


class Judged(unittest.TestCase):
    def test_fractions(self):
        for right in SOME + [(10 ** 3999 + 1, 10), (1, 10 ** 3999), (-5, 1)]:
            self.assertIs(ratios.is_ratio(right), True)

    def test_a_kind_of_tuple_is_a_tuple(self):
        self.assertIs(ratios.is_ratio(namedtuple("Held", "top bottom")(3, 2)), True)

    def test_whatever_else(self):
        wrong = [
            (2, 4), (-2, 4), (0, 2), (0, 7), (5, 5), (10 ** 30, 10), (1, 0), (0, 0), (1, -1), (0, -1), (-3, -2), (3, -2),
            (True, 1), (1, True), (False, 1), (True, True), (True, 2), (3, False), [1, 2], [3, 1], (1,), (), (1, 2, 3),
            (1, 2, 1), (1, None), (None, 1), ("1", 2), (1, "2"), ((1, 2), 3), (1, (2, 3)), ([1], 2), "1/2", "12", "", None,
            True, False, 0, 1, -3, {}, {1: 2}, {1, 2}, frozenset([1, 2]), b"12", object(), int, range(1, 3), Fraction(1, 2),
        ]
        for thing in wrong:
            with self.subTest(thing=thing):
                self.assertIs(ratios.is_ratio(thing), False)


class Shown(unittest.TestCase):
    def test_written_out(self):
        shown = {(3, 1): "3", (-3, 2): "-3/2", (0, 1): "0", (-1, 1): "-1", (10, 7): "10/7", (1, 10 ** 29): "1/1" + 29 * "0"}
        for value, text in shown.items():
            with self.subTest(text):
                self.assertEqual(ratios.show_ratio(value), text)
                self.assertIs(type(ratios.show_ratio(value)), str)

    def test_far_more_figures_than_are_read(self):
        self.assertEqual(ratios.show_ratio((10 ** 3999, 1)), "1" + 3999 * "0")
        self.assertEqual(ratios.show_ratio((-1, 10 ** 3999)), "-1/1" + 3999 * "0")


class Read(Checked):
    def test_shown_and_read_again(self):
        most = 10 ** 30 - 1
        edges = [(most, 1), (-most, 1), (1, most), (-1, most), (most, most - 1), (1 - most, most), (9, 10), (-10, 9)]
        for value in SOME + edges + [(top, 1) for top in SMALL]:
            with self.subTest(value=value):
                told = ratios.read_ratio(ratios.show_ratio(value))
                self.assertEqual(told, value)
                self.check_whole_pair(told)

    def test_written_out(self):
        self.assertEqual(ratios.read_ratio("3"), (3, 1))
        self.assertEqual(ratios.read_ratio("-3/2"), (-3, 2))
        self.assertEqual(ratios.read_ratio("0"), (0, 1))
        self.assertEqual(ratios.read_ratio("10/7"), (10, 7))

    def test_other_texts_are_refused(self):
        wrong = [
            "", " ", "-", "/", "-/", "/2", "-/2", "1/", "-1/", "3//2", "3/2/", "3/2/5", "/3/2", "--3", "--3/2", "-3-", "3-",
            "1/-2", "-1/-2", "3/--2", "1-2", "-0", "-0/3", "0/3", "00", "01", "-01", "003/2", "3/02", "3/00", "+3", "+0",
            "-+3", "+-3", "3/+2", " 3", "3 ", "- 3", "3 /2", "3/ 2", "3/2 ", " 3/2", "1 2", "3/1", "0/1", "-3/1", "1/1",
            "3/0", "0/0", "-3/0", "2/4", "-2/4", "6/3", "3/3", "10/10", "x", "3x", "x3", "3/x", "3/2x", "0x1", "1e3", "1_0",
            "_1", "1_", "3/1_0", "1.5", "1.", ".5", "3/2.0", "1,5", "1,000", "(3, 2)", "3\\2", "3:2", "~", "three", "None",
        ]
        for text in wrong:
            with self.subTest(text=text):
                with self.assertRaises(NoText):
                    ratios.read_ratio(text)

    def test_each_sign_put_anywhere_is_refused_or_told_back(self):
        for text in ["3", "-3/2", "0"]:
            for place in range(len(text) + 1):
                for sign in map(chr, range(32, 127)):
                    spoiled = text[:place] + sign + text[place:]
                    try:
                        told = ratios.read_ratio(spoiled)
                    except NoText:
                        continue
                    self.assertIn(sign, "-/0123456789")
                    self.assertEqual(ratios.show_ratio(told), spoiled)

    def test_more_than_thirty_figures_are_refused(self):
        many = "1" + 30 * "0"
        for text in [many, "-" + many, many + "/3", "1/" + many, "-1/" + many, 4000 * "7", "1/" + 3998 * "7"]:
            with self.subTest(length=len(text)):
                with self.assertRaises(NoText):
                    ratios.read_ratio(text)

    def test_other_rows_and_figures_of_other_scripts_are_refused(self):
        for text in ["3\n", "\t3", "3/2\n", "\u0663", "3/\u0662", "\u00b2", "\u22123"]:
            with self.subTest(text=text):
                with self.assertRaises(NoText):
                    ratios.read_ratio(text)

    def test_what_is_no_text_is_refused(self):
        for thing in NO_TEXTS:
            with self.subTest(thing=thing):
                with self.assertRaises(NoText):
                    ratios.read_ratio(thing)


if __name__ == "__main__":
    unittest.main()
