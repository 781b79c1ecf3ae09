"""Promises [18] and [19], [3] where it speaks of best answers, and [2] of them."""

import copy
import random
import unittest
from fractions import Fraction

from hushduel import answers
from hushduel.errors import NoPlan
from hushduel.plans import is_plan
from tests.helpers import (
    CHANCE, HALF, LEAF, LONE, LONE_TWO, ONE, PENNIES, POKER, STRANGE, TWICE, WRITTEN, Maker, a_plan, deal, end, evenly,
    move, pair, pure, pure_plans, slow_brings, slow_held, slow_rows, sound_games, walk,
)

NOUGHT = (0, 1)
THIRD = (1, 3)


def comes_of(place, plans):
    if place[0] == "end":
        return Fraction(*place[1])
    shares = [share for share, branch in place[2]] if place[0] == "deal" else plans[place[1]][place[2]]
    return sum(Fraction(*share) * comes_of(branch, plans) for share, (lead, branch) in zip(shares, place[-1]))


def reach(game, way, side, plan):
    """The product of the deals' and the plan's shares on a way."""
    product = Fraction(1)
    for number in way:
        if game[0] == "deal":
            product *= Fraction(*game[2][number][0])
        elif game[1] == side:
            product *= Fraction(*plan[game[2]][number])
        game = game[-1][number][1]
    return product


def slow_words(game, side, plan, answer):
    """What each word of the answering side brings at each name, where the answer goes on behind it."""
    told = {}
    for row in slow_rows(game, 3 - side):
        sums = [Fraction(0)] * len(row[2])
        for way, place, chance, records in walk(game):
            if place[:3] == ("move", 3 - side, row[1]):
                for number, (word, branch) in enumerate(place[3]):
                    behind = comes_of(branch, {side: plan, 3 - side: answer})
                    sums[number] += reach(game, way, side, plan) * behind
        told[row[1]] = sums
    return told


class Answers(unittest.TestCase):
    def check_answer(self, game, side, plan):
        told = answers.best_answer(game, side, plan)
        self.assertIs(type(told), tuple)
        bring, answer, words = told
        self.assertIs(is_plan(game, 3 - side, answer), True)
        wanted = slow_words(game, side, plan, answer)
        self.assertEqual(words, {seen: tuple(pair(each) for each in sums) for seen, sums in wanted.items()})
        for seen, sums in wanted.items():
            best = max(sums) if side == 2 else min(sums)
            self.assertEqual(answer[seen], pure(sums.index(best), len(sums)))
        both = (plan, answer) if side == 1 else (answer, plan)
        self.assertEqual(bring, pair(slow_brings(game, *both)))
        self.assertEqual(answers.held(game, side, plan), bring)
        return bring

    def test_written_out(self):
        self.assertEqual(
            answers.best_answer(PENNIES, 1, {"one": (THIRD, (2, 3))}),
            ((-1, 3), {"two": (ONE, NOUGHT)}, {"two": ((-1, 3), (1, 3))}),
        )
        self.assertEqual(
            answers.best_answer(PENNIES, 2, {"two": (THIRD, (2, 3))}),
            ((1, 3), {"one": (NOUGHT, ONE)}, {"one": ((-1, 3), (1, 3))}),
        )
        self.assertEqual(
            answers.best_answer(POKER, 1, {"high": (ONE, NOUGHT), "low": (THIRD, (2, 3))}),
            (THIRD, {"bet": (ONE, NOUGHT)}, {"bet": ((2, 3), (2, 3))}),
        )
        self.assertEqual(
            answers.best_answer(POKER, 2, {"bet": (HALF, HALF)}),
            (HALF, {"high": (ONE, NOUGHT), "low": (ONE, NOUGHT)}, {"high": ((3, 4), HALF), "low": ((-1, 4), (-1, 2))}),
        )
        self.assertEqual(
            answers.best_answer(TWICE, 2, {"reply": (HALF, HALF)}),
            (
                (4, 1), {"first": (ONE, NOUGHT), "second": (ONE, NOUGHT), "third": (NOUGHT, ONE)},
                {"first": ((4, 1), HALF), "second": ((3, 2), (-1, 2)), "third": ((-1, 1), (5, 2))},
            ),
        )

    def test_a_side_without_names(self):
        self.assertEqual(answers.best_answer(LEAF, 1, {}), (NOUGHT, {}, {}))
        self.assertEqual(answers.best_answer(CHANCE, 2, {}), ((7, 6), {}, {}))
        self.assertEqual(answers.best_answer(LONE, 1, {"only": (HALF, HALF, NOUGHT)}), ((2, 1), {}, {}))
        self.assertEqual(answers.best_answer(LONE, 2, {}), ((3, 1), {"only": pure(1, 3)}, {"only": (ONE, (3, 1), (2, 1))}))
        self.assertEqual(answers.best_answer(LONE_TWO, 1, {}), ((3, 4), {"only": pure(1, 2)}, {"only": ((3, 2), (3, 4))}))

    def test_the_first_of_the_words_that_bring_alike(self):
        for side in (1, 2):
            game = move(side, "k", a=end(1), b=end(2), c=end(2), d=end(1), e=end(2))
            best = 1 if side == 1 else 0
            self.assertEqual(answers.best_answer(game, 3 - side, {})[1], {"k": pure(best, 5)})

    def test_names_never_come_to_bring_nought_and_take_the_first_word(self):
        game = move(1, "k", a=move(2, "l", x=end(5), y=end(-5)), b=move(2, "m", x=end(1), y=end(-1)))
        self.assertEqual(
            answers.best_answer(game, 1, {"k": (NOUGHT, ONE)}),
            ((-1, 1), {"l": (ONE, NOUGHT), "m": (NOUGHT, ONE)}, {"l": (NOUGHT, NOUGHT), "m": (ONE, (-1, 1))}),
        )

    def test_own_shares_on_the_way_do_not_count(self):
        told = answers.best_answer(TWICE, 2, {"reply": (ONE, NOUGHT)})
        self.assertEqual(told[2], {"first": ((3, 1), HALF), "second": ((3, 1), (-1, 1)), "third": (NOUGHT, NOUGHT)})

    def test_what_the_answering_side_does_later_counts(self):
        # The second move turns what the first one seems to bring.
        later = evenly("d", move(1, "x", go=end(8), no=end(-9)), move(1, "y", go=end(-9), no=end(6)))
        game = move(1, "k", safe=end(5), later=later)
        self.assertEqual(answers.best_answer(game, 2, {})[1], {"k": (NOUGHT, ONE), "x": (ONE, NOUGHT), "y": (NOUGHT, ONE)})
        blind = evenly("d", move(1, "x", go=end(8), no=end(-9)), move(1, "x", go=end(-9), no=end(6)))
        game = move(1, "k", safe=end(5), later=blind)
        self.assertEqual(
            answers.best_answer(game, 2, {}),
            ((5, 1), {"k": (ONE, NOUGHT), "x": (ONE, NOUGHT)}, {"k": ((5, 1), (-1, 2)), "x": ((-1, 2), (-3, 2))}),
        )

    def test_a_later_name_that_stands_ahead_in_the_table_of_others(self):
        deep = move(1, "b", go=move(2, "z", x=move(1, "c", go=end(1), no=end(4)), y=end(0)), no=end(-2))
        game = evenly("d", move(1, "a", go=deep, no=end(1)), move(2, "z", x=move(1, "e", go=end(0), no=end(1)), y=end(3)))
        source = random.Random(1)
        for step in range(20):
            self.check_answer(game, 2, a_plan(source, game, 2))
            self.check_answer(game, 1, a_plan(source, game, 1))

    def test_some_games(self):
        source = random.Random(21)
        for game in WRITTEN + sound_games(source, 150, 6):
            for side in (1, 2):
                self.check_answer(game, side, a_plan(source, game, side))

    def test_no_plan_of_the_answering_side_does_better(self):
        source = random.Random(22)

        def is_fit(game):
            return max(len(pure_plans(game, 1)), len(pure_plans(game, 2))) < 150
        for game in WRITTEN + sound_games(source, 100, 6, is_fit):
            for side in (1, 2):
                for plan in [a_plan(source, game, side), a_plan(source, game, side)]:
                    told = self.check_answer(game, side, plan)
                    self.assertEqual(told, pair(slow_held(game, side, plan)))

    def test_great_numbers(self):
        stake = Fraction(10 ** 12 - 1, 991)
        inner = move(1, "k", a=move(2, "l", x=end(stake), y=end(-stake)), b=LEAF)
        game = deal("d", (Fraction(1, 997), inner), (Fraction(996, 997), LEAF))
        share = Fraction(10 ** 40, 10 ** 41 + 1)
        plan = {"k": (pair(share), pair(1 - share))}
        self.assertEqual(answers.held(game, 1, plan), pair(-stake * share / 997))
        folded = Maker(random.Random(3), stakes=[Fraction(10 ** 40, 7 ** 9), Fraction(-(10 ** 20), 3 ** 30)]).game(4)
        for side in (1, 2):
            self.check_answer(folded, side, a_plan(random.Random(4), folded, side))

    def test_no_plan(self):
        two = {"two": (HALF, HALF)}
        wrong = STRANGE + [
            {}, {"two": (HALF,)}, {"one": (HALF, HALF)}, {"two": [HALF, HALF]}, {"two": (HALF, THIRD)}, {"two": (ONE, ONE)},
            {"two": ((3, 2), (-1, 2))}, {**two, "one": (HALF, HALF)}, {**two, "x": ()}, [two], (two,),
        ]
        for thing in wrong:
            with self.subTest(thing=thing):
                with self.assertRaises(NoPlan):
                    answers.best_answer(PENNIES, 2, thing)
                with self.assertRaises(NoPlan):
                    answers.held(PENNIES, 2, thing)
        for ask in [answers.best_answer, answers.held]:
            with self.assertRaises(NoPlan):
                ask(PENNIES, 1, two)
            with self.assertRaises(NoPlan):
                ask(LEAF, 1, two)

    def test_handed_in_and_told(self):
        game = copy.deepcopy(POKER)
        plan = {"low": (HALF, HALF), "high": (ONE, NOUGHT)}
        told = answers.best_answer(game, 1, plan)
        wanted = copy.deepcopy(told)
        self.assertEqual((game, plan), (POKER, {"low": (HALF, HALF), "high": (ONE, NOUGHT)}))
        self.assertEqual(answers.best_answer(game, 1, dict(reversed(plan.items()))), wanted)
        told[1].clear()
        told[2]["bet"] = None
        self.assertEqual(answers.best_answer(game, 1, plan), wanted)
        kinds = [type(part) for part in wanted]
        self.assertEqual(kinds, [tuple, dict, dict])
        self.assertEqual([type(each) for each in wanted[2].values()], [tuple])


if __name__ == "__main__":
    unittest.main()
