"""Promises [20], [21] and [22], and [2] where it speaks of seekings.

Which of several right outcomes is told is free, so each is held against the sums that make it right.
"""

import copy
import random
import signal
import unittest
from fractions import Fraction

from hushduel.errors import TooGreat
from hushduel.ratios import is_ratio
from hushduel.seeking import solve, solve_next
from tests.helpers import pair


def pairs(numbers):
    return [pair(number) for number in numbers]


def told_as(rows, bounds, wish):
    return [pairs(row) for row in rows], pairs(bounds), pairs(wish)


def values(fractions):
    return [Fraction(*each) for each in fractions]


def product(first, second):
    return sum(one * two for one, two in zip(first, second, strict=True))


# Searches that go round for ever where the next corner is chosen without care.
ROUND = [
    ([[Fraction(1, 4), -60, Fraction(-1, 25), 9], [Fraction(1, 2), -90, Fraction(-1, 50), 3], [0, 0, 1, 0]], [0, 0, 1],
     [Fraction(3, 4), -150, Fraction(1, 50), -6]),
    ([[Fraction(1, 4), -8, -1, 9], [Fraction(1, 2), -12, Fraction(-1, 2), 3], [0, 0, 1, 0]], [0, 0, 1],
     [Fraction(3, 4), -20, Fraction(1, 2), -6]),
    ([[Fraction(1, 2), Fraction(-11, 2), Fraction(-5, 2), 9], [Fraction(1, 2), Fraction(-3, 2), Fraction(-1, 2), 1],
      [1, 0, 0, 0]], [0, 0, 1], [10, -57, -9, -24]),
    ([[-2, -9, 1, 9], [Fraction(1, 3), 1, Fraction(-1, 3), -2]], [0, 0], [2, 3, -1, -12]),
    ([[1, -2, -3, 4], [4, -3, -2, 1], [1, 1, 1, 1]], [0, 0, 1], [3, -5, 1, -2]),
    ([[1, -2, -3, 4], [4, -3, -2, 1]], [0, 0], [1, -2, 1, -2]),
    ([[Fraction(3, 5), Fraction(-32, 5), Fraction(24, 5), 0], [Fraction(1, 5), Fraction(-9, 5), Fraction(3, 5), 0],
      [Fraction(2, 5), Fraction(-8, 5), Fraction(1, 5), 0], [0, 1, 0, 0]], [0, 0, 0, 1],
     [Fraction(2, 5), Fraction(2, 5), Fraction(-9, 5), 1]),
]
# The same in whole numbers, of these choices of a column and, among rows that end together, of a row.
ROUND_WHOLE = {
    "most help, first row": ([[18, 3, -18, -6], [-4, -1, 2, 1]], [-24, -3, 6, 6]),
    "most help, last row": ([[-4, 2, -1, 1], [18, -18, 3, -6]], [-24, 6, -3, 6]),
    "first column, first row": (
        [[2, -3, -2, 1, 2, -3], [-3, -3, -2, -3, 2, 0], [2, -3, 2, 2, 1, -3]], [-3, -3, 0, 2, -3, 1],
    ),
    "first column, last row": ([[-6, 3, -2, 1], [9, -9, 2, -2]], [-12, 3, -2, 2]),
    "first column, last held": (
        [[1, 3, 5, 2, -5], [1, 1, -3, -2, -3], [4, -1, 4, 1, -2], [0, -4, 3, 0, 1]], [-3, 4, -2, -4, -4],
    ),
    "last column, first row": ([[-2, 2, -9, 9], [1, -2, 3, -6]], [2, -2, 3, -12]),
    "last column, first held": ([[-1, 2, 1], [2, 1, -2], [-2, 1, 2], [1, -2, 2]], [1, 1, 1]),
}
ROUND.extend([(rows, [0] * len(rows), wish) for rows, wish in ROUND_WHOLE.values()])


def cube(size):
    """The twisted cube through all of whose corners a search may go."""
    rows = [[0] * size for step in range(size)]
    for number in range(size):
        for other in range(number):
            rows[number][other] = 2 * 10 ** (number - other)
        rows[number][number] = 1
    return rows, [100 ** number for number in range(size)], [10 ** (size - 1 - number) for number in range(size)]


def a_seeking(source, most=8):
    """A seeking with many noughts, so that corners fall together and rows depend on one another."""
    wide, high = source.randint(1, most), source.randint(0, most)
    spread = source.choice([1, 1, 2, 5])
    sparse = source.choice([0.2, 0.5, 0.8])

    def number(low=-spread):
        if source.random() < sparse:
            return 0
        return Fraction(source.randint(low, spread), source.choice([1, 1, 1, 2, 3]))
    rows = [[number() for step in range(wide)] for other in range(high)]
    if high > 1 and source.random() < 0.4:
        times = source.choice([1, 2, Fraction(1, 2), -1])
        rows[-1] = [times * each for each in rows[0]]
    if high > 0 and source.random() < 0.4:
        rows[0] = [abs(each) + source.choice([0, 1]) for each in rows[0]]
    bounds = [0 if source.random() < 0.3 else number(0) for step in range(high)]
    return rows, bounds, [number() for step in range(wide)]


def too_long(signal_number, frame):
    raise TimeoutError("the search does not end")


class Held(unittest.TestCase):
    # A search that goes round for ever is to fail, not to hang.
    def setUp(self):
        self.before = signal.signal(signal.SIGALRM, too_long)
        signal.alarm(60)

    def tearDown(self):
        signal.alarm(0)
        signal.signal(signal.SIGALRM, self.before)

    def check_list(self, some, length):
        self.assertIs(type(some), list)
        self.assertEqual(len(some), length)
        for each in some:
            self.assertIs(is_ratio(each), True)
            self.assertGreaterEqual(each[0], 0)
        return values(some)

    def check_fit(self, rows, bounds, wish, fit):
        fit = self.check_list(fit, len(wish))
        for row, bound in zip(rows, bounds, strict=True):
            self.assertLessEqual(product(row, fit), bound)
        return fit

    def check_best(self, rows, bounds, wish, fit, prices):
        fit = self.check_fit(rows, bounds, wish, fit)
        prices = self.check_list(prices, len(rows))
        for place in range(len(wish)):
            self.assertGreaterEqual(product(prices, [row[place] for row in rows]), wish[place])
        self.assertEqual(product(prices, bounds), product(fit, wish))
        return fit

    def check_way(self, rows, wish, way):
        way = self.check_list(way, len(wish))
        for row in rows:
            self.assertLessEqual(product(row, way), 0)
        return way

    def check_endless(self, rows, bounds, wish, told):
        self.assertEqual(len(told), 3)
        self.check_fit(rows, bounds, wish, told[1])
        self.assertGreater(product(self.check_way(rows, wish, told[2]), wish), 0)

    def check_solve(self, rows, bounds, wish):
        told = solve(*told_as(rows, bounds, wish))
        self.assertIs(type(told), tuple)
        self.assertIn(told[0], ["best", "endless"])
        self.assertEqual(len(told), 3)
        if told[0] == "best":
            self.check_best(rows, bounds, wish, told[1], told[2])
        else:
            self.check_endless(rows, bounds, wish, told)
        return told

    def check_next(self, rows, bounds, wish, second):
        told = solve_next(*told_as(rows, bounds, wish), pairs(second))
        self.assertIs(type(told), tuple)
        if told[0] == "endless":
            self.check_endless(rows, bounds, wish, told)
            return told
        fit = self.check_best(rows, bounds, wish, told[1], told[2])
        if told[0] == "endless next":
            self.assertEqual(len(told), 4)
            way = self.check_way(rows, wish, told[3])
            self.assertEqual(product(way, wish), 0)
            self.assertGreater(product(way, second), 0)
            return told
        self.assertEqual(told[0], "best")
        self.assertEqual(len(told), 5)
        others = self.check_list(told[3], len(rows))
        lift = self.check_list([told[4]], 1)[0]
        for place in range(len(wish)):
            sums = product(others, [row[place] for row in rows]) - lift * wish[place]
            self.assertGreaterEqual(sums, second[place])
        self.assertEqual(product(others, bounds) - lift * product(fit, wish), product(fit, second))
        return told

    def worth(self, told, wish):
        return product(values(told[1]), wish)


class Solve(Held):
    def check_worth(self, rows, bounds, wish, wanted):
        told = self.check_solve(rows, bounds, wish)
        self.assertEqual(told[0], "best")
        self.assertEqual(self.worth(told, wish), wanted)

    def test_written_out(self):
        self.assertEqual(solve([[(1, 1)]], [(3, 1)], [(2, 1)]), ("best", [(3, 1)], [(2, 1)]))
        self.assertEqual(solve([[(2, 1)]], [(3, 1)], [(1, 2)]), ("best", [(3, 2)], [(1, 4)]))
        self.check_worth([[1, 1], [1, 3]], [4, 6], [3, 5], 14)
        self.check_worth([[2, 1], [1, 2], [1, 0]], [10, 8, 4], [3, 2], 16)
        self.check_worth([[Fraction(1, 3), Fraction(2, 7)]], [Fraction(5, 11)], [1, 1], Fraction(35, 22))
        self.check_worth([[1, -1], [-1, 1], [1, 1]], [0, 0, 2], [1, 1], 2)

    def test_nothing_is_wished(self):
        self.check_worth([[1, 2]], [3], [0, 0], 0)
        self.check_worth([[1, 2]], [3], [-1, -2], 0)
        self.check_worth([[-1, -2]], [0], [0, -2], 0)

    def test_without_rows(self):
        for wish in [[0], [-1], [0, -3, 0], [-1] * 8]:
            self.assertEqual(self.check_solve([], [], wish), ("best", [(0, 1)] * len(wish), []))
        for wish in [[1], [-1, Fraction(1, 9)], [0] * 7 + [1]]:
            self.assertEqual(self.check_solve([], [], wish)[0], "endless")

    def test_endless(self):
        for rows, bounds, wish in [
            ([[-1]], [0], [1]), ([[1, -1]], [1], [1, 0]), ([[0]], [0], [1]), ([[0]], [5], [1]), ([[1, 0]], [1], [0, 1]),
            ([[1, -1], [-1, 1]], [2, 2], [1, 1]), ([[1, -2], [-2, 1]], [0, 0], [1, 1]), ([[-1, 0], [0, 1]], [3, 3], [1, 1]),
            ([[1, 1, -3]], [0], [1, 1, -1]), ([[0] * 8] * 8, [0] * 8, [0] * 7 + [1]),
        ]:
            with self.subTest(rows=rows):
                self.assertEqual(self.check_solve(rows, bounds, wish)[0], "endless")

    def test_bounds_of_nought(self):
        self.check_worth([[1]], [0], [1], 0)
        self.check_worth([[1, 1], [1, -1]], [0, 0], [5, 7], 0)
        self.check_worth([[1, -1], [0, 1]], [0, 3], [1, 0], 3)
        self.check_worth([[1, -1, 0], [0, 1, -1], [0, 0, 1]], [0, 0, 2], [1, 0, 0], 2)

    def test_rows_that_depend_on_one_another(self):
        self.check_worth([[1, 2]] * 8, [4] * 8, [1, 1], 4)
        self.check_worth([[1, 2], [2, 4], [3, 6], [-1, -2]], [4, 8, 12, 0], [1, 1], 4)
        self.check_worth([[1, 2], [2, 4], [0, 0]], [4, 7, 0], [1, 1], Fraction(7, 2))
        self.check_worth([[1, 0], [0, 1], [1, 1], [1, -1], [-1, 1]], [1, 1, 2, 0, 0], [1, 1], 2)

    def test_searches_that_go_round(self):
        for rows, bounds, wish in ROUND:
            self.check_solve(rows, bounds, wish)
        for (rows, bounds, wish), worth in zip(ROUND, [Fraction(1, 20), Fraction(5, 4), 1]):
            self.check_worth(rows, bounds, wish, worth)

    def test_twisted_cubes(self):
        for size in range(1, 9):
            rows, bounds, wish = cube(size)
            self.check_worth(rows, bounds, wish, 100 ** (size - 1))

    def test_some(self):
        source = random.Random(23)
        seen = {"best": 0, "endless": 0}
        for step in range(1500):
            told = self.check_solve(*a_seeking(source))
            seen[told[0]] += 1
        self.assertGreater(min(seen.values()), 200)

    def test_signs_and_noughts_alone(self):
        source = random.Random(24)
        for step in range(400):
            wide, high = source.randint(4, 8), source.randint(4, 8)
            rows = [[source.choice([-1, 0, 0, 1]) for other in range(wide)] for number in range(high)]
            bounds = [source.choice([0, 0, 0, 1]) for row in rows]
            self.check_solve(rows, bounds, [source.choice([-1, 0, 1, 1]) for other in range(wide)])

    def test_great_numbers(self):
        source = random.Random(25)

        def great(least):
            return Fraction(source.randint(least, 10 ** 30), source.randint(1, 10 ** 30))
        for step in range(20):
            rows = [[great(1) for other in range(8)] for number in range(8)]
            bounds = [great(0) for row in rows]
            wish = [great(-10 ** 30) for other in range(8)]
            self.assertEqual(self.check_solve(rows, bounds, wish)[0], "best")

    def test_too_great(self):
        one, none = (1, 1), (0, 1)
        for high, wide in [(9, 1), (9, 8), (9, 9), (0, 9), (1, 9), (8, 9), (10, 2), (20, 20)]:
            for each in (one, none):
                with self.assertRaises(TooGreat):
                    solve([[each] * wide for step in range(high)], [each] * high, [each] * wide)
                with self.assertRaises(TooGreat):
                    solve_next([[each] * wide for step in range(high)], [each] * high, [each] * wide, [each] * wide)
        for high, wide in [(8, 8), (8, 1), (0, 8), (1, 8), (0, 1)]:
            self.check_solve([[1] * wide for step in range(high)], [1] * high, [-1] * wide)
            self.check_next([[1] * wide for step in range(high)], [1] * high, [-1] * wide, [1] * wide)

    def test_handed_in_and_told(self):
        for rows, bounds, wish in [([[1, 1], [1, 3]], [4, 6], [3, 5]), ([[1, -1]], [1], [1, 0])]:
            asked = told_as(rows, bounds, wish)
            told = solve(*asked)
            wanted = copy.deepcopy(told)
            self.assertEqual(asked, told_as(rows, bounds, wish))
            told[1][0] = None
            told[2].clear()
            self.assertEqual(solve(*asked), wanted)
            asked[0][0][0] = (7, 1)
            asked[1].clear()
            self.assertEqual(solve(*told_as(rows, bounds, wish)), wanted)


class Next(Held):
    def check_worths(self, rows, bounds, wish, second, first_worth, second_worth):
        told = self.check_next(rows, bounds, wish, second)
        self.assertEqual((told[0], self.worth(told, wish), self.worth(told, second)), ("best", first_worth, second_worth))

    def test_best(self):
        self.check_worths([[1, 1]], [2], [1, 1], [1, 0], 2, 2)
        self.check_worths([[1, 1]], [2], [1, 1], [0, 1], 2, 2)
        self.check_worths([[1, 1]], [2], [2, 1], [0, 1], 4, 0)
        self.check_worths([[1, 1], [1, 0]], [2, 1], [1, 1], [3, -1], 2, 2)
        self.check_worths([[1, 1]], [2], [0, 0], [1, 3], 0, 6)
        self.check_worths([[1, 1]], [2], [0, -1], [1, 3], 0, 2)
        self.check_worths([[1, 1]], [2], [1, 1], [-1, -1], 2, -2)
        self.check_worths([[1, 1, 1], [1, 0, 0]], [3, 1], [1, 1, 0], [0, -1, 5], 3, -2)
        self.check_worths([], [], [-1, 0], [5, 0], 0, 0)
        # The second wish calls for a lift: it would do better at a loss of the first.
        self.check_worths([[1, 2], [2, 1]], [4, 4], [1, 1], [100, -100], Fraction(8, 3), 0)

    def test_the_second_wish_is_endless_where_the_first_costs_it(self):
        self.check_worths([[1, 0]], [1], [1, -1], [0, 1], 1, 0)
        self.check_worths([[0, 1]], [1], [-1, 1], [7, 0], 1, 0)

    def test_endless(self):
        for second in [[0, 0], [1, 1], [-1, -1]]:
            self.assertEqual(self.check_next([[1, -1]], [1], [1, 0], second)[0], "endless")
        self.assertEqual(self.check_next([], [], [1], [0])[0], "endless")

    def test_endless_next(self):
        for rows, bounds, wish, second in [
            ([], [], [0], [1]), ([[1, 0]], [1], [1, 0], [0, 1]), ([[1, -1]], [1], [1, -1], [1, 1]), ([[-1]], [0], [0], [1]),
            ([[1, -1], [-1, 1]], [2, 2], [1, -1], [1, 0]), ([[0, 0]], [0], [-1, 0], [-5, 1]),
        ]:
            with self.subTest(rows=rows):
                self.assertEqual(self.check_next(rows, bounds, wish, second)[0], "endless next")

    def test_searches_that_go_round(self):
        for rows, bounds, wish in ROUND:
            none = [0] * len(wish)
            self.check_next(rows, bounds, wish, [-each for each in wish])
            self.check_next(rows, bounds, none, wish)
            self.check_next(rows, bounds, wish, none)
            self.check_next(rows, bounds, wish, list(reversed(wish)))
            self.check_next(rows + [[1] * len(wish)], bounds + [1], wish, list(reversed(wish)))

    def test_twisted_cubes(self):
        for size in range(1, 9):
            rows, bounds, wish = cube(size)
            self.check_next(rows, bounds, [0] * size, wish)
            self.check_next(rows, bounds, wish, [-each for each in wish])

    def test_some(self):
        source = random.Random(26)
        seen = {"best": 0, "endless": 0, "endless next": 0}
        lifted = 0
        for step in range(2500):
            rows, bounds, wish = a_seeking(source, source.choice([3, 8]))
            if source.random() < 0.4 and rows:
                # A wish along a row has many best lists.
                wish = list(rows[0])
            second = [Fraction(source.randint(-3, 3), source.choice([1, 1, 2])) for each in wish]
            told = self.check_next(rows, bounds, wish, second)
            seen[told[0]] += 1
            lifted += told[0] == "best" and told[4][0] > 0
        self.assertGreater(min(seen.values()), 150)
        self.assertGreater(lifted, 100)

    def test_the_first_wish_is_as_well_met_as_alone(self):
        source = random.Random(27)
        for step in range(200):
            rows, bounds, wish = a_seeking(source, 5)
            told = self.check_next(rows, bounds, wish, [1] * len(wish))
            alone = self.check_solve(rows, bounds, wish)
            self.assertEqual(told[0] == "endless", alone[0] == "endless")
            if alone[0] == "best":
                self.assertEqual(self.worth(told, wish), self.worth(alone, wish))

    def test_handed_in_and_told(self):
        cases = [
            ([[1, 1], [1, 3]], [4, 6], [1, 3], [3, 5]), ([[1, -1]], [1], [1, 0], [1, 1]), ([[1, 0]], [1], [1, 0], [0, 1]),
        ]
        for rows, bounds, wish, second in cases:
            asked = told_as(rows, bounds, wish) + (pairs(second),)
            told = solve_next(*asked)
            wanted = copy.deepcopy(told)
            self.assertEqual(asked, told_as(rows, bounds, wish) + (pairs(second),))
            for part in told[1:4]:
                part.clear()
            self.assertEqual(solve_next(*asked), wanted)


if __name__ == "__main__":
    unittest.main()
