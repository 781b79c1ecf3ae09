"""Promises [23] and [24], [3] where it speaks of balances, and [2] of them."""

import copy
import random
import unittest
from fractions import Fraction

from hushduel import balances
from hushduel.errors import NoPlan, TooGreat
from hushduel.games import turned
from hushduel.plans import is_plan
from tests.helpers import (
    CHANCE, FOUR_PENNIES, HALF, LEAF, LONE, LONE_TWO, ONE, PENNIES, POKER, STRANGE, TWICE, WRITTEN, Maker, a_plan, at_once,
    both_sums, crossed, deal, end, evenly, is_let_by, is_small, names, pair, pure, slow_held, sound_games, walk,
)

NOUGHT = (0, 1)
THIRD = (1, 3)
PAPER = at_once([[0, -1, 1], [1, 0, -1], [-1, 1, 0]])


class Balances(unittest.TestCase):
    def check_balance(self, game):
        told = balances.balance(game)
        self.assertIs(type(told), tuple)
        worth, one, two = told
        self.assertIs(is_plan(game, 1, one), True)
        self.assertIs(is_plan(game, 2, two), True)
        self.assertEqual(pair(slow_held(game, 1, one)), worth)
        self.assertEqual(pair(slow_held(game, 2, two)), worth)
        self.assertIs(balances.is_balance(game, one, two), True)
        self.assertEqual(balances.between(game, one, two), (worth, worth))
        return worth

    def check_too_great(self, game):
        self.assertTrue(is_let_by(game))
        with self.assertRaises(TooGreat):
            balances.balance(game)

    def test_worths_written_out(self):
        self.assertEqual(self.check_balance(LEAF), NOUGHT)
        self.assertEqual(self.check_balance(end(Fraction(-7, 3))), (-7, 3))
        self.assertEqual(self.check_balance(CHANCE), (7, 6))
        self.assertEqual(self.check_balance(LONE), (3, 1))
        self.assertEqual(self.check_balance(LONE_TWO), (3, 4))
        self.assertEqual(self.check_balance(PENNIES), NOUGHT)
        self.assertEqual(self.check_balance(POKER), THIRD)
        self.assertEqual(self.check_balance(TWICE), (3, 1))
        self.assertEqual(self.check_balance(PAPER), NOUGHT)
        self.assertEqual(self.check_balance(at_once([[3, 0], [-1, 1]])), (3, 5))
        self.assertEqual(self.check_balance(at_once([[-3, -4], [-5, -3]])), (-11, 3))

    def test_plans_written_out(self):
        self.assertEqual(balances.balance(LEAF), (NOUGHT, {}, {}))
        self.assertEqual(balances.balance(PENNIES), (NOUGHT, {"one": (HALF, HALF)}, {"two": (HALF, HALF)}))
        self.assertEqual(balances.balance(PAPER), (NOUGHT, {"row": (THIRD,) * 3}, {"place": (THIRD,) * 3}))
        bluffs = {"high": (ONE, NOUGHT), "low": (THIRD, (2, 3))}
        self.assertEqual(balances.balance(POKER), (THIRD, bluffs, {"bet": ((2, 3), THIRD)}))
        self.assertEqual(balances.balance(LONE), ((3, 1), {"only": pure(1, 3)}, {}))

    def test_stakes_of_either_sign(self):
        for least in [-100, -3, -1, 0, 1, 50, Fraction(-1, 7), 10 ** 11, -10 ** 11]:
            stakes = [[least + 3, least], [least - 1, least + 1]]
            self.assertEqual(self.check_balance(at_once(stakes)), pair(least + Fraction(3, 5)))

    def test_turned(self):
        for game in [game for game in WRITTEN + [PAPER] if is_small(game)]:
            worth = balances.balance(game)[0]
            self.assertEqual(self.check_balance(turned(game)), (-worth[0], worth[1]))

    def test_some_small_games(self):
        source = random.Random(28)
        for game in sound_games(source, 250, 5, is_small):
            self.check_balance(game)

    def test_games_as_great_as_small_ones_are(self):
        source = random.Random(29)
        for game in sound_games(source, 60, 6, lambda game: max(both_sums(game)) == 7 and min(both_sums(game)) >= 5):
            self.check_balance(game)

    def test_games_of_deep_records(self):
        source = random.Random(30)

        def deep(game):
            longest = max(len(records[0]) + len(records[1]) for way, place, chance, records in walk(game))
            return is_small(game) and longest > 3
        for game in sound_games(source, 40, 7, deep):
            self.check_balance(game)

    def test_like_stakes_and_many_noughts(self):
        source = random.Random(31)
        done = 0
        while done < 120:
            game = Maker(source, stakes=(0, 0, 0, 1, -1)).game(5)
            if is_let_by(game) and is_small(game):
                self.check_balance(game)
                done += 1

    def test_great_fractions(self):
        stakes = [[Fraction(10 ** 12 - 1, 997), Fraction(-(10 ** 11), 991)], [Fraction(-1, 983), Fraction(10 ** 10, 7)]]
        game = deal("d", (Fraction(1, 997), at_once(stakes)), (Fraction(996, 997), CHANCE))
        self.check_balance(game)
        # As folding leaves them: beyond what a game that is looked at may have.
        stakes = [Fraction(10 ** 40, 7 ** 9), Fraction(-(10 ** 20), 3 ** 30), 0, 10 ** 18]
        for seed in range(20):
            game = Maker(random.Random(seed), stakes).game(4)
            if is_small(game):
                self.check_balance(game)

    def test_sums_at_seven(self):
        source = random.Random(32)
        for first, second in [
            ([1], [6]), ([6], [1]), ([6], [6]), ([2, 2, 2], [4]), ([4], [2, 2, 2]), ([3, 2], [3, 2]), ([1, 4], [2, 3]),
            ([1] * 6, [1]), ([2, 4], [3]),
        ]:
            for game in [names(source, first, second), crossed(source, first, second)]:
                self.assertTrue(is_let_by(game))
                self.assertEqual(max(both_sums(game)), 7)
                self.check_balance(game)
        for first, second in [([5, 2], []), ([], [4, 3]), ([1] * 7, []), ([], [1] * 7)]:
            game = names(source, first, second)
            self.assertEqual(max(both_sums(game)), 7)
            self.check_balance(game)
        for step in range(10):
            game = at_once([[source.randint(-9, 9) for place in range(6)] for row in range(6)])
            self.assertEqual(both_sums(game), (7, 7))
            self.check_balance(game)

    def test_sums_at_eight(self):
        source = random.Random(33)
        for first, second in [
            ([1, 1], [6]), ([6], [1, 1]), ([6, 2], []), ([], [6, 2]), ([6, 1], [1]), ([1], [6, 1]), ([2, 2, 2], [5]),
            ([5], [2, 2, 2]), ([3, 3], [3, 3]), ([1] * 8, []), ([], [1] * 8), ([1] * 7, [1]),
        ]:
            game = names(source, first, second)
            self.assertEqual(max(both_sums(game)), 8)
            self.check_too_great(game)

    def test_either_sum_alone_is_too_great(self):
        source = random.Random(34)
        one_sided = [names(source, [6, 2], []), names(source, [], [6, 2])]
        self.assertEqual([both_sums(game) for game in one_sided], [(2, 8), (8, 2)])
        for game in one_sided:
            self.check_too_great(game)
        for game in sound_games(source, 60, 6, lambda game: not is_small(game)):
            self.check_too_great(game)

    def test_words_at_many_places_count_once(self):
        game = evenly("d", *[at_once([[1, 2, 3], [3, -2, 1]]) for step in range(4)])
        self.assertEqual(both_sums(game), (4, 3))
        self.check_balance(game)

    def test_handed_in_and_told(self):
        game = copy.deepcopy(POKER)
        told = balances.balance(game)
        wanted = copy.deepcopy(told)
        self.assertEqual(game, POKER)
        told[1].clear()
        told[2]["bet"] = None
        self.assertEqual(balances.balance(POKER), wanted)
        self.assertEqual([type(part) for part in wanted], [tuple, dict, dict])


class Judged(unittest.TestCase):
    def test_written_out(self):
        half = {"one": (HALF, HALF)}, {"two": (HALF, HALF)}
        self.assertIs(balances.is_balance(PENNIES, *half), True)
        self.assertEqual(balances.between(PENNIES, *half), (NOUGHT, NOUGHT))
        third = {"one": (THIRD, (2, 3))}
        self.assertIs(balances.is_balance(PENNIES, third, half[1]), False)
        self.assertEqual(balances.between(PENNIES, third, half[1]), ((-1, 3), NOUGHT))
        self.assertEqual(balances.between(PENNIES, half[0], {"two": (ONE, NOUGHT)}), (NOUGHT, ONE))
        self.assertIs(balances.is_balance(CHANCE, {}, {}), True)
        self.assertEqual(balances.between(CHANCE, {}, {}), ((7, 6), (7, 6)))

    def test_what_two_plans_bring_is_not_what_they_hold(self):
        heads = {"one": (ONE, NOUGHT)}, {"two": (HALF, HALF)}
        self.assertIs(balances.is_balance(PENNIES, *heads), False)
        self.assertEqual(balances.between(PENNIES, *heads), ((-1, 1), NOUGHT))

    def test_whoever_made_them(self):
        for stay in [(THIRD, (2, 3)), (ONE, NOUGHT), (NOUGHT, ONE)]:
            game = at_once([[1, 1], [1, 1]])
            self.assertIs(balances.is_balance(game, {"row": stay}, {"place": stay}), True)

    def test_games_that_are_not_small(self):
        self.assertFalse(is_small(FOUR_PENNIES))
        one = {"one" + str(number): (HALF, HALF) for number in range(4)}
        two = {"two" + str(number): (HALF, HALF) for number in range(4)}
        self.assertIs(balances.is_balance(FOUR_PENNIES, one, two), True)
        one["one2"] = (THIRD, (2, 3))
        self.assertIs(balances.is_balance(FOUR_PENNIES, one, two), False)
        self.assertEqual(balances.between(FOUR_PENNIES, one, two), ((-1, 12), NOUGHT))

    def test_some_games(self):
        source = random.Random(35)
        found = {True: 0, False: 0}
        for game in WRITTEN + sound_games(source, 150, 5):
            if len(repr(game)) < 3000:
                one, two = a_plan(source, game, 1), a_plan(source, game, 2)
                both = (slow_held(game, 1, one), slow_held(game, 2, two))
                self.assertEqual(balances.between(game, one, two), (pair(both[0]), pair(both[1])))
                self.assertIs(balances.is_balance(game, one, two), both[0] == both[1])
                self.assertLessEqual(*both)
                found[both[0] == both[1]] += 1
        self.assertGreater(min(found.values()), 10)

    def test_the_worth_lies_between(self):
        source = random.Random(36)
        for game in sound_games(source, 80, 5, is_small):
            worth = Fraction(*balances.balance(game)[0])
            told = balances.between(game, a_plan(source, game, 1), a_plan(source, game, 2))
            self.assertLessEqual(Fraction(*told[0]), worth)
            self.assertGreaterEqual(Fraction(*told[1]), worth)

    def test_each_first_goes_with_each_second(self):
        source = random.Random(37)
        found = 0
        for game in sound_games(source, 80, 4, is_small):
            worth, one, two = balances.balance(game)
            for step in range(6):
                first, second = a_plan(source, game, 1), a_plan(source, game, 2)
                if balances.is_balance(game, first, second):
                    found += 1
                    self.assertEqual(balances.between(game, first, two), (worth, worth))
                    self.assertEqual(balances.between(game, one, second), (worth, worth))
        self.assertGreater(found, 20)

    def test_no_plan(self):
        half = {"one": (HALF, HALF)}, {"two": (HALF, HALF)}
        wrong = STRANGE + [{}, {"x": (HALF, HALF)}]
        for seen in ["one", "two"]:
            wrong += [{seen: (HALF,)}, {seen: [HALF, HALF]}, {seen: (HALF, THIRD)}, {seen: ((3, 2), (-1, 2))}]
        for ask in [balances.is_balance, balances.between]:
            for thing in wrong:
                with self.assertRaises(NoPlan):
                    ask(PENNIES, thing, half[1])
                with self.assertRaises(NoPlan):
                    ask(PENNIES, half[0], thing)
                with self.assertRaises(NoPlan):
                    ask(FOUR_PENNIES, thing, thing)
            with self.assertRaises(NoPlan):
                ask(PENNIES, half[1], half[0])
            with self.assertRaises(NoPlan):
                ask(LEAF, {}, half[1])

    def test_handed_in_stays(self):
        one, two = {"one": (HALF, HALF)}, {"two": (THIRD, (2, 3))}
        first = balances.between(PENNIES, one, two)
        self.assertEqual((one, two), ({"one": (HALF, HALF)}, {"two": (THIRD, (2, 3))}))
        self.assertEqual(balances.between(PENNIES, one, two), first)


if __name__ == "__main__":
    unittest.main()
