"""Promises [14] and [15], and [2] where it speaks of plans."""

import copy
import random
import unittest
from fractions import Fraction

from hushduel import plans
from hushduel.errors import NoPlan
from tests.helpers import (
    CHANCE, HALF, LEAF, LONE, LONE_TWO, ONE, PENNIES, POKER, STRANGE, TWICE, WRITTEN, a_plan, deal, end, evenly, move, pair,
    pure_plans, slow_brings, slow_rows, slow_weight, sound_games, words_of,
)

NOUGHT = (0, 1)
THIRD = (1, 3)
SIX = move(1, "k", a=LEAF, b=LEAF, c=LEAF, d=LEAF, e=LEAF, f=end(1))
POKER_PLAN = {"high": (ONE, NOUGHT), "low": (THIRD, (2, 3))}
# What stands in a plan in the place of the shares of two words, and is wrong.
WRONG_SHARES = [
    None, True, 1, "a", "", (), [], {}, HALF, (1, 1), [HALF, HALF], [ONE, NOUGHT], (HALF,), (ONE,),
    (HALF, HALF, NOUGHT), (THIRD, THIRD, THIRD), (HALF, THIRD), (NOUGHT, NOUGHT), (ONE, ONE), ((3, 2), (-1, 2)),
    ((-1, 2), (3, 2)), ((2, 1), (-1, 1)), ((2, 4), HALF), (HALF, (2, 4)), ((1, -2), (3, 2)), (HALF, [1, 2]),
    ([1, 2], HALF), (HALF, None), (1, 0), ("1/2", "1/2"), (HALF, (1, 2, 3)), (HALF, (1,)), ((True, 1), NOUGHT),
    (ONE, (False, 1)), ((1, True), NOUGHT), ((1, 0), NOUGHT), (HALF, HALF, None), frozenset([HALF]), {HALF: HALF},
    (pair(Fraction(10 ** 30 + 1, 10 ** 30)), NOUGHT),
]


def wrong_plans(plan):
    """Of a plan with names of two words each: things near it that are none."""
    wrong = list(STRANGE) + [{}, list(plan), list(plan.items()), tuple(plan.items()), "high", set(plan), [plan], (plan,)]
    for seen in plan:
        wrong.extend([{**plan, seen: shares} for shares in WRONG_SHARES])
        less = {key: plan[key] for key in plan if key != seen}
        wrong.append(less)
        keys = ["x", seen + "1", seen.upper(), "", None, 1, True, (seen,), b"k", (1, seen)]
        wrong.extend([{**less, key: plan[seen]} for key in keys])
    others = ["x", "card", "call", "", None, 0, (1, "high"), ("high", "bet")]
    wrong.extend([{**plan, key: (HALF, HALF)} for key in others])
    wrong.extend([{**plan, key: ()} for key in ["x", None]])
    return wrong


class Judged(unittest.TestCase):
    def test_plans(self):
        tiny = Fraction(1, 10 ** 40)
        for shares in [(ONE, NOUGHT), (NOUGHT, ONE), (HALF, HALF), (THIRD, (2, 3)), (pair(tiny), pair(1 - tiny))]:
            self.assertIs(plans.is_plan(PENNIES, 1, {"one": shares}), True)
            self.assertIs(plans.is_plan(PENNIES, 2, {"two": shares}), True)
        self.assertIs(plans.is_plan(POKER, 1, POKER_PLAN), True)
        self.assertIs(plans.is_plan(POKER, 2, {"bet": (HALF, HALF)}), True)
        self.assertIs(plans.is_plan(SIX, 1, {"k": ((1, 6),) * 6}), True)
        self.assertIs(plans.is_plan(SIX, 1, {"k": ((1, 6),) * 5}), False)
        self.assertIs(plans.is_plan(SIX, 1, {"k": ((1, 7),) * 7}), False)

    def test_in_whatever_order(self):
        self.assertIs(plans.is_plan(POKER, 1, dict(reversed(POKER_PLAN.items()))), True)

    def test_the_other_sides_plan_is_none(self):
        self.assertIs(plans.is_plan(POKER, 2, POKER_PLAN), False)
        self.assertIs(plans.is_plan(POKER, 1, {"bet": (HALF, HALF)}), False)
        self.assertIs(plans.is_plan(PENNIES, 1, {"one": (HALF, HALF), "two": (HALF, HALF)}), False)

    def test_the_same_name_seen_by_both(self):
        game = move(1, "k", a=move(2, "k", x=LEAF), b=LEAF)
        self.assertIs(plans.is_plan(game, 1, {"k": (HALF, HALF)}), True)
        self.assertIs(plans.is_plan(game, 2, {"k": (HALF, HALF)}), False)
        self.assertIs(plans.is_plan(game, 2, {"k": (ONE,)}), True)
        self.assertIs(plans.is_plan(game, 1, {"k": (ONE,)}), False)

    def test_a_side_without_names(self):
        for game, side in [(LEAF, 1), (LEAF, 2), (CHANCE, 1), (CHANCE, 2), (LONE, 2), (LONE_TWO, 1)]:
            self.assertIs(plans.is_plan(game, side, {}), True)
            for thing in STRANGE + [{"only": (ONE,)}, {"x": ()}, {None: None}]:
                self.assertIs(plans.is_plan(game, side, thing), False)

    def test_whatever_is_none(self):
        for thing in wrong_plans(POKER_PLAN):
            with self.subTest(thing=thing):
                self.assertIs(plans.is_plan(POKER, 1, thing), False)

    def test_some_games(self):
        source = random.Random(14)
        for game in sound_games(source, 100, 5):
            for side in (1, 2):
                plan = a_plan(source, game, side)
                self.assertIs(plans.is_plan(game, side, plan), True)
                for seen in plan:
                    self.assertIs(plans.is_plan(game, side, {key: plan[key] for key in plan if key != seen}), False)
                    self.assertIs(plans.is_plan(game, side, {**plan, seen: plan[seen] + (NOUGHT,)}), False)
                    self.assertIs(plans.is_plan(game, side, {**plan, seen: plan[seen][1:] + (HALF,)}), plan[seen][0] == HALF)

    def test_the_thing_stays_as_it_was(self):
        for thing in [dict(POKER_PLAN), {"high": [HALF, HALF], "low": (ONE, NOUGHT)}, {"high": {}, 1: [2]}]:
            kept = copy.deepcopy(thing)
            plans.is_plan(POKER, 1, thing)
            self.assertEqual(thing, kept)
            self.assertEqual(list(thing), list(kept))


class Weights(unittest.TestCase):
    def test_written_out(self):
        self.assertEqual(plans.weights_of(LEAF, 1, {}), {})
        self.assertEqual(plans.weights_of(LONE, 2, {}), {})
        self.assertEqual(
            plans.weights_of(POKER, 1, POKER_PLAN),
            {("high", "bet"): ONE, ("high", "stay"): NOUGHT, ("low", "bet"): THIRD, ("low", "stay"): (2, 3)},
        )
        plan = {"first": (HALF, HALF), "second": (THIRD, (2, 3)), "third": (ONE, NOUGHT)}
        self.assertEqual(
            plans.weights_of(TWICE, 1, plan),
            {
                ("first", "go"): HALF, ("first", "stay"): HALF, ("second", "up"): (1, 6), ("second", "down"): THIRD,
                ("third", "up"): HALF, ("third", "down"): NOUGHT,
            },
        )

    def test_behind_a_word_without_a_share(self):
        plan = {"first": (NOUGHT, ONE), "second": (THIRD, (2, 3)), "third": (ONE, NOUGHT)}
        told = plans.weights_of(TWICE, 1, plan)
        self.assertEqual([told[(seen, word)] for seen in ["second", "third"] for word in ["up", "down"]], [NOUGHT] * 4)

    def test_some_games(self):
        source = random.Random(15)
        for game in WRITTEN + sound_games(source, 120, 6):
            for side in (1, 2):
                plan = a_plan(source, game, side)
                words = words_of(game, side)
                wanted = {}
                for row in slow_rows(game, side):
                    for word in row[2]:
                        wanted[(row[1], word)] = pair(slow_weight(row[3] + ((row[1], word),), words, plan))
                self.assertEqual(plans.weights_of(game, side, plan), wanted)

    def test_no_plan(self):
        for thing in wrong_plans(POKER_PLAN):
            with self.assertRaises(NoPlan):
                plans.weights_of(POKER, 1, thing)

    def test_handed_in_and_told(self):
        plan = dict(POKER_PLAN)
        told = plans.weights_of(POKER, 1, plan)
        again = plans.weights_of(POKER, 1, dict(reversed(plan.items())))
        self.assertEqual(told, again)
        told.clear()
        self.assertEqual(plan, POKER_PLAN)
        self.assertEqual(plans.weights_of(POKER, 1, plan), again)


class Brings(unittest.TestCase):
    def test_written_out(self):
        self.assertEqual(plans.brings(LEAF, {}, {}), NOUGHT)
        self.assertEqual(plans.brings(CHANCE, {}, {}), pair(Fraction(2) + Fraction(2, 3) * Fraction(-5, 4)))
        self.assertEqual(plans.brings(LONE, {"only": (HALF, (1, 4), (1, 4))}, {}), (7, 4))
        self.assertEqual(plans.brings(LONE_TWO, {}, {"only": (HALF, HALF)}), (9, 8))
        self.assertEqual(plans.brings(PENNIES, {"one": (HALF, HALF)}, {"two": (ONE, NOUGHT)}), NOUGHT)
        self.assertEqual(plans.brings(PENNIES, {"one": (THIRD, (2, 3))}, {"two": (ONE, NOUGHT)}), (-1, 3))
        self.assertEqual(plans.brings(POKER, POKER_PLAN, {"bet": ((2, 3), THIRD)}), THIRD)

    def test_the_words_of_each_side_go_with_its_own_plan(self):
        game = move(1, "k", a=move(2, "k", a=end(1), b=end(2)), b=move(2, "k", a=end(3), b=end(4)))
        for number, one in enumerate(pure_plans(game, 1)):
            for other, two in enumerate(pure_plans(game, 2)):
                self.assertEqual(plans.brings(game, one, two), (1 + 2 * number + other, 1))

    def test_some_games(self):
        source = random.Random(16)
        for game in WRITTEN + sound_games(source, 200, 6):
            one, two = a_plan(source, game, 1), a_plan(source, game, 2)
            self.assertEqual(plans.brings(game, one, two), pair(slow_brings(game, one, two)))

    def test_great_numbers(self):
        stake = Fraction(10 ** 12 - 1, 7)
        game = deal("d", (Fraction(1, 997), move(1, "k", a=end(stake), b=LEAF)), (Fraction(996, 997), LEAF))
        share = Fraction(10 ** 50, 10 ** 51 + 1)
        plan = {"k": (pair(share), pair(1 - share))}
        self.assertEqual(plans.brings(game, plan, {}), pair(stake * share / 997))

    def test_no_plan(self):
        two = {"bet": (HALF, HALF)}
        for thing in wrong_plans(POKER_PLAN):
            with self.assertRaises(NoPlan):
                plans.brings(POKER, thing, two)
        for thing in wrong_plans(two):
            with self.assertRaises(NoPlan):
                plans.brings(POKER, POKER_PLAN, thing)
        with self.assertRaises(NoPlan):
            plans.brings(POKER, two, POKER_PLAN)
        with self.assertRaises(NoPlan):
            plans.brings(LEAF, {}, {"x": (ONE,)})

    def test_handed_in_stays_and_asked_again_the_same_is_told(self):
        one, two = dict(POKER_PLAN), {"bet": (HALF, HALF)}
        game = copy.deepcopy(POKER)
        first = plans.brings(game, one, two)
        self.assertEqual((game, one, two), (POKER, POKER_PLAN, {"bet": (HALF, HALF)}))
        self.assertEqual(plans.brings(evenly("card", *[branch for share, branch in POKER[2]]), one, two), first)


if __name__ == "__main__":
    unittest.main()
