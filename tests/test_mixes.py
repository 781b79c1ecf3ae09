"""Promises [16] and [17], and [2] where it speaks of mixes."""

import copy
import itertools
import random
import unittest
from fractions import Fraction

from hushduel import mixes
from hushduel.errors import NoPlan, TooGreat
from tests.helpers import (
    CHANCE, HALF, LEAF, LONE, ONE, PENNIES, POKER, STRANGE, TWICE, WRITTEN, a_plan, evenly, move, pair, pure, pure_plans,
    slow_brings, slow_rows, some_shares, sound_games, words_of,
)

NOUGHT = (0, 1)
THIRD = (1, 3)
HEADS = {"one": (ONE, NOUGHT)}
TAILS = {"one": (NOUGHT, ONE)}


def goes_along(plan, words, pairs):
    return all(plan[seen][words[seen].index(word)] == ONE for seen, word in pairs)


def slow_mixed(game, side, mix):
    words = words_of(game, side)
    plan = {}
    for row in slow_rows(game, side):
        whole = sum(Fraction(*weight) for weight, each in mix if goes_along(each, words, row[3]))
        parts = []
        for word in row[2]:
            pairs = row[3] + ((row[1], word),)
            parts.append(sum(Fraction(*weight) for weight, each in mix if goes_along(each, words, pairs)))
        plan[row[1]] = tuple(pair(part / whole) for part in parts) if whole > 0 else pure(0, len(row[2]))
    return plan


def a_mix(source, game, side, most=6):
    plans = pure_plans(game, side)
    count = source.randint(1, most)
    return [(weight, dict(source.choice(plans))) for weight in some_shares(source, count)]


def names(side, counts):
    """A deal of moves with a name and so many words each."""
    words = [dict.fromkeys("abcdef"[:count], LEAF) for count in counts]
    return evenly("d", *[move(side, "n" + str(number), **each) for number, each in enumerate(words)])


class Mixed(unittest.TestCase):
    def test_written_out(self):
        self.assertEqual(mixes.mixed(PENNIES, 1, [(ONE, HEADS)]), HEADS)
        self.assertEqual(mixes.mixed(PENNIES, 1, [(THIRD, HEADS), ((2, 3), TAILS)]), {"one": (THIRD, (2, 3))})
        self.assertEqual(mixes.mixed(PENNIES, 1, [(NOUGHT, HEADS), (ONE, TAILS)]), TAILS)
        self.assertEqual(mixes.mixed(PENNIES, 1, [(THIRD, HEADS), (THIRD, TAILS), (THIRD, HEADS)]), {"one": ((2, 3), THIRD)})
        self.assertEqual(mixes.mixed(LEAF, 1, [(HALF, {}), (HALF, {})]), {})
        self.assertEqual(mixes.mixed(LONE, 2, [(ONE, {})]), {})

    def test_only_plans_that_go_along_with_the_record_count(self):
        go = {"first": (ONE, NOUGHT), "second": (NOUGHT, ONE), "third": (ONE, NOUGHT)}
        stay = {"first": (NOUGHT, ONE), "second": (ONE, NOUGHT), "third": (NOUGHT, ONE)}
        also_go = {"first": (ONE, NOUGHT), "second": (ONE, NOUGHT), "third": (ONE, NOUGHT)}
        told = mixes.mixed(TWICE, 1, [(HALF, go), ((1, 4), stay), ((1, 4), also_go)])
        self.assertEqual(told, {"first": ((3, 4), (1, 4)), "second": (THIRD, (2, 3)), "third": (ONE, NOUGHT)})

    def test_names_that_no_plan_goes_along_with(self):
        stay = {"first": (NOUGHT, ONE), "second": (NOUGHT, ONE), "third": (NOUGHT, ONE)}
        self.assertEqual(
            mixes.mixed(TWICE, 1, [(ONE, stay)]),
            {"first": (NOUGHT, ONE), "second": (ONE, NOUGHT), "third": (ONE, NOUGHT)},
        )
        go = {"first": (ONE, NOUGHT), "second": (NOUGHT, ONE), "third": (NOUGHT, ONE)}
        self.assertEqual(
            mixes.mixed(TWICE, 1, [(ONE, stay), (NOUGHT, go)]),
            {"first": (NOUGHT, ONE), "second": (ONE, NOUGHT), "third": (ONE, NOUGHT)},
        )

    def test_some_games(self):
        source = random.Random(17)
        for game in WRITTEN + sound_games(source, 100, 6):
            for side in (1, 2):
                mix = a_mix(source, game, side)
                self.assertEqual(mixes.mixed(game, side, mix), slow_mixed(game, side, mix))

    def test_it_brings_what_the_mix_brings(self):
        source = random.Random(18)

        def is_fit(game):
            return len(pure_plans(game, 1)) * len(pure_plans(game, 2)) < 200
        for game in WRITTEN + sound_games(source, 60, 5, is_fit):
            mix = a_mix(source, game, 1)
            plan = mixes.mixed(game, 1, mix)
            for two in pure_plans(game, 2) + [a_plan(source, game, 2)]:
                wanted = sum(Fraction(*weight) * slow_brings(game, each, two) for weight, each in mix)
                self.assertEqual(slow_brings(game, plan, two), wanted)
            mix = a_mix(source, game, 2)
            plan = mixes.mixed(game, 2, mix)
            for one in pure_plans(game, 1) + [a_plan(source, game, 1)]:
                wanted = sum(Fraction(*weight) * slow_brings(game, one, each) for weight, each in mix)
                self.assertEqual(slow_brings(game, one, plan), wanted)

    def test_no_mix(self):
        wrong = STRANGE + [{}, HEADS, "mix", ((ONE, HEADS),), {ONE: HEADS}, (ONE, HEADS), [HEADS], [ONE]]
        for weight in [NOUGHT, HALF, (2, 1), (-1, 1), (2, 2), 1, True, None, "1", [1, 1], (1, 1, 1)]:
            wrong.append([(weight, HEADS)])
        wrong += [
            [(HALF, HEADS)] * 3, [(HALF, HEADS), (THIRD, TAILS)], [((3, 2), HEADS), ((-1, 2), TAILS)],
            [(ONE, HEADS), (ONE, TAILS)], [((2, 4), HEADS), (HALF, TAILS)], [(ONE, HEADS), (NOUGHT, None)],
            [[ONE, HEADS]], [(ONE, HEADS, None)], [(ONE,)], [()], [(ONE, HEADS), None], [(ONE, HEADS), ()], [(HEADS, ONE)],
            [(ONE, HEADS), (NOUGHT, HEADS, HEADS)], ["ab"], [(ONE, HEADS), "ab"], [None], [(None, None)],
        ]
        for plan in STRANGE + [
            {}, {"one": (HALF, HALF)}, {"one": (THIRD, (2, 3))}, {"two": (ONE, NOUGHT)}, {"one": [ONE, NOUGHT]},
            {"one": (ONE,)}, {**HEADS, "two": (ONE, NOUGHT)}, {"one": (ONE, ONE)}, {"one": (NOUGHT, NOUGHT)},
            {"one": (1, 0)}, {"one": (ONE, NOUGHT, NOUGHT)}, {"one": ((2, 1), (-1, 1))}, [("one", (ONE, NOUGHT))],
            {"one": None}, {1: (ONE, NOUGHT)},
        ]:
            wrong.append([(ONE, plan)])
            wrong.append([(HALF, HEADS), (HALF, plan)])
            wrong.append([(NOUGHT, plan), (ONE, HEADS)])
        for thing in wrong:
            with self.subTest(thing=thing):
                with self.assertRaises(NoPlan):
                    mixes.mixed(PENNIES, 1, thing)
        for thing in [[], [(ONE, HEADS)], [(ONE, {}), (ONE, {})], {}]:
            with self.assertRaises(NoPlan):
                mixes.mixed(LEAF, 1, thing)

    def test_pure_at_one_name_and_not_at_another(self):
        half = {"high": (ONE, NOUGHT), "low": (HALF, HALF)}
        with self.assertRaises(NoPlan):
            mixes.mixed(POKER, 1, [(ONE, half)])

    def test_handed_in_and_told(self):
        mix = [(THIRD, dict(HEADS)), ((2, 3), dict(TAILS))]
        kept = copy.deepcopy(mix)
        told = mixes.mixed(PENNIES, 1, mix)
        self.assertEqual(mix, kept)
        self.assertEqual(mixes.mixed(PENNIES, 1, mix), told)
        wanted = dict(told)
        mix[0][1]["one"] = (NOUGHT, ONE)
        mix.clear()
        self.assertEqual(told, wanted)
        told.clear()
        self.assertEqual(mixes.mixed(PENNIES, 1, kept), wanted)
        # A plan of the mix itself is not handed back.
        alone = [(ONE, dict(HEADS))]
        mixes.mixed(PENNIES, 1, alone)["one"] = None
        self.assertEqual(alone, [(ONE, HEADS)])


def slow_spread(game, side, plan):
    rows = slow_rows(game, side)
    mix = []
    for choice in itertools.product(*[range(len(row[2])) for row in rows]):
        weight = Fraction(1)
        for row, number in zip(rows, choice):
            weight *= Fraction(*plan[row[1]][number])
        if weight > 0:
            mix.append((pair(weight), {row[1]: pure(number, len(row[2])) for row, number in zip(rows, choice)}))
    return mix


class Spread(unittest.TestCase):
    def test_written_out(self):
        self.assertEqual(mixes.spread(PENNIES, 1, {"one": (THIRD, (2, 3))}), [(THIRD, HEADS), ((2, 3), TAILS)])
        self.assertEqual(mixes.spread(PENNIES, 1, TAILS), [(ONE, TAILS)])
        self.assertEqual(mixes.spread(LEAF, 1, {}), [(ONE, {})])
        self.assertEqual(mixes.spread(CHANCE, 2, {}), [(ONE, {})])
        self.assertEqual(
            mixes.spread(POKER, 1, {"low": (THIRD, (2, 3)), "high": (HALF, HALF)}),
            [
                ((1, 6), {"high": (ONE, NOUGHT), "low": (ONE, NOUGHT)}),
                (THIRD, {"high": (ONE, NOUGHT), "low": (NOUGHT, ONE)}),
                ((1, 6), {"high": (NOUGHT, ONE), "low": (ONE, NOUGHT)}),
                (THIRD, {"high": (NOUGHT, ONE), "low": (NOUGHT, ONE)}),
            ],
        )

    def test_words_without_a_share_are_left_out(self):
        plan = {"only": (HALF, NOUGHT, HALF)}
        self.assertEqual(mixes.spread(LONE, 1, plan), [(HALF, {"only": pure(0, 3)}), (HALF, {"only": pure(2, 3)})])

    def test_names_that_are_never_come_to_are_spread_too(self):
        plan = {"first": (NOUGHT, ONE), "second": (HALF, HALF), "third": (HALF, HALF)}
        told = mixes.spread(TWICE, 1, plan)
        self.assertEqual([weight for weight, each in told], [(1, 4)] * 4)
        self.assertEqual(told, slow_spread(TWICE, 1, plan))

    def test_some_games(self):
        source = random.Random(19)
        for game in WRITTEN + sound_games(source, 150, 5):
            for side in (1, 2):
                plan = a_plan(source, game, side)
                wanted = slow_spread(game, side, plan)
                for order in [dict(sorted(plan.items())), dict(reversed(plan.items())), plan]:
                    if len(wanted) > 64:
                        with self.assertRaises(TooGreat):
                            mixes.spread(game, side, order)
                    else:
                        self.assertEqual(mixes.spread(game, side, order), wanted)

    def test_mixed_again_it_brings_the_same(self):
        source = random.Random(20)
        for game in WRITTEN + sound_games(source, 60, 5, lambda game: len(pure_plans(game, 1)) <= 64):
            plan = a_plan(source, game, 1)
            again = mixes.mixed(game, 1, mixes.spread(game, 1, plan))
            two = a_plan(source, game, 2)
            self.assertEqual(slow_brings(game, again, two), slow_brings(game, plan, two))

    def test_sixty_four_and_more(self):
        for counts in [[2] * 6, [4, 4, 4], [4, 4, 2, 2], [1, 2, 1, 2, 2, 2, 2, 2]]:
            game = names(2, counts)
            plan = {"n" + str(number): ((1, count),) * count for number, count in enumerate(counts)}
            self.assertEqual(mixes.spread(game, 2, plan), slow_spread(game, 2, plan))
            self.assertEqual(len(mixes.spread(game, 2, plan)), 64)
        for counts in [[5, 5, 3], [6, 6, 2], [2] * 7, [6, 6, 6, 6], [3] * 8, [5, 3, 5]]:
            game = names(1, counts)
            plan = {"n" + str(number): ((1, count),) * count for number, count in enumerate(counts)}
            with self.assertRaises(TooGreat):
                mixes.spread(game, 1, plan)
            del plan["n0"]
            with self.assertRaises(NoPlan):
                mixes.spread(game, 1, plan)

    def test_only_words_with_a_share_are_counted(self):
        game = names(1, [6, 6, 6, 6])
        plan = {"n" + str(number): ((1, 4),) * 4 + (NOUGHT,) * 2 for number in range(3)}
        plan["n3"] = pure(5, 6)
        self.assertEqual(mixes.spread(game, 1, plan), slow_spread(game, 1, plan))
        plan["n3"] = (HALF, NOUGHT, NOUGHT, NOUGHT, NOUGHT, HALF)
        with self.assertRaises(TooGreat):
            mixes.spread(game, 1, plan)

    def test_no_plan(self):
        for thing in STRANGE + [{}, {"one": (HALF,)}, {"two": (HALF, HALF)}, {"one": [HALF, HALF]}, {"one": (HALF, THIRD)}]:
            with self.assertRaises(NoPlan):
                mixes.spread(PENNIES, 1, thing)
        great = {"n" + str(number): (HALF, HALF) for number in range(7)}
        for thing in [{**great, "x": (HALF, HALF)}, {**great, "n6": (HALF, THIRD)}, {**great, "n6": [HALF, HALF]}]:
            with self.assertRaises(NoPlan):
                mixes.spread(names(1, [2] * 7), 1, thing)

    def test_handed_in_and_told(self):
        plan = {"low": (THIRD, (2, 3)), "high": (HALF, HALF)}
        told = mixes.spread(POKER, 1, plan)
        wanted = copy.deepcopy(told)
        self.assertEqual(plan, {"low": (THIRD, (2, 3)), "high": (HALF, HALF)})
        told[0][1]["high"] = None
        self.assertEqual(told[1:], wanted[1:])
        told.clear()
        self.assertEqual(mixes.spread(POKER, 1, plan), wanted)
        alone = dict(HEADS)
        mixes.spread(PENNIES, 1, alone)[0][1].clear()
        self.assertEqual(alone, HEADS)


if __name__ == "__main__":
    unittest.main()
