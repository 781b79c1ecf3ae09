"""Promise [25], and [2] of it."""

import copy
import random
import unittest
from fractions import Fraction

from hushduel import mosts
from hushduel.balances import balance
from hushduel.errors import NoWord, TooGreat
from hushduel.games import turned
from hushduel.plans import is_plan
from tests.helpers import (
    CHANCE, FOUR_PENNIES, HALF, LEAF, LONE, LONE_TWO, ONE, PENNIES, POKER, TWICE, WRITTEN, Maker, at_once, both_sums,
    crossed, deal, end, evenly, is_let_by, is_small, move, names, pure_plans, slow_brings, slow_held, slow_rows, slow_weight,
    sound_games, walk, words_of,
)

NOUGHT = (0, 1)
THIRD = (1, 3)
# Side 2 may stay out of it, or lay one of two, which side 1 has to meet.
THREE = at_once([[1, -1, 0], [-1, 1, 0]])
FLAT = at_once([[1, 1], [1, 1]])


class Mosts(unittest.TestCase):
    def check_most(self, game, side, seen, word):
        told = mosts.most(game, side, seen, word)
        self.assertEqual([type(part) for part in told], [tuple, dict, tuple, dict])
        self.assertIs(type(told), tuple)
        most, plan, lift, other = Fraction(*told[0]), told[1], Fraction(*told[2]), told[3]
        self.assertIs(is_plan(game, side, plan), True)
        self.assertIs(is_plan(game, 3 - side, other), True)
        worth = Fraction(*balance(game)[0])
        self.assertEqual(slow_held(game, side, plan), worth)
        words = words_of(game, side)
        record = [row for row in slow_rows(game, side) if row[1] == seen][0][3] + ((seen, word),)
        self.assertEqual(slow_weight(record, words, plan), most)
        self.assertGreaterEqual(lift, 0)
        sign = 1 if side == 1 else -1
        for each in pure_plans(game, side):
            brought = slow_brings(game, each, other) if side == 1 else slow_brings(game, other, each)
            self.assertLessEqual(slow_weight(record, words, each) + sign * lift * (brought - worth), most)
        return told[0]

    def check_all(self, game):
        return {
            (row[0], row[1], word): self.check_most(game, row[0], row[1], word)
            for side in (1, 2) for row in slow_rows(game, side) for word in row[2]
        }

    def test_nought_and_one(self):
        self.assertEqual(self.check_all(LONE), {(1, "only", "a"): NOUGHT, (1, "only", "b"): ONE, (1, "only", "c"): NOUGHT})
        self.assertEqual(self.check_all(LONE_TWO), {(2, "only", "a"): NOUGHT, (2, "only", "b"): ONE})
        for told in self.check_all(FLAT).values():
            self.assertEqual(told, ONE)

    def test_between(self):
        for told in self.check_all(PENNIES).values():
            self.assertEqual(told, HALF)
        self.assertEqual(self.check_all(POKER), {
            (1, "high", "bet"): ONE, (1, "high", "stay"): NOUGHT, (1, "low", "bet"): THIRD, (1, "low", "stay"): (2, 3),
            (2, "bet", "call"): (2, 3), (2, "bet", "fold"): THIRD,
        })

    def test_between_where_there_are_several_balances(self):
        self.assertEqual(self.check_all(THREE), {
            (1, "row", "a"): HALF, (1, "row", "b"): HALF,
            (2, "place", "a"): HALF, (2, "place", "b"): HALF, (2, "place", "c"): ONE,
        })

    def test_names_behind_names(self):
        self.assertEqual(self.check_all(TWICE), {
            (1, "first", "go"): ONE, (1, "first", "stay"): NOUGHT, (1, "second", "up"): ONE, (1, "second", "down"): NOUGHT,
            (1, "third", "up"): (2, 7), (1, "third", "down"): ONE, (2, "reply", "left"): ONE, (2, "reply", "right"): NOUGHT,
        })
        # What stands behind a word that has a part alone has no more than this part.
        twice = move(1, "k", a=move(1, "l", x=end(1), y=end(1)), b=move(2, "z", p=end(2), q=end(1)))
        self.assertEqual(self.check_all(twice), {
            (1, "k", "a"): ONE, (1, "k", "b"): ONE, (1, "l", "x"): ONE, (1, "l", "y"): ONE,
            (2, "z", "p"): NOUGHT, (2, "z", "q"): ONE,
        })
        laid = move(
            1, "k",
            a=move(2, "z", p=move(1, "l", x=end(1), y=end(1)), q=move(1, "l", x=end(-1), y=end(-1))),
            b=move(2, "z", p=end(-1), q=end(1)),
        )
        told = self.check_all(laid)
        for word in ["x", "y"]:
            self.assertEqual(told[(1, "l", word)], HALF)

    def test_the_second_side_is_the_first_of_the_turned_game(self):
        for game in [POKER, TWICE, THREE, LONE]:
            told = self.check_all(game)
            back = self.check_all(turned(game))
            self.assertEqual({(3 - key[0], key[1], key[2]): value for key, value in back.items()}, told)

    def test_stakes_of_either_sign(self):
        for least in [-100, -3, 0, 7, Fraction(-1, 7), 10 ** 11]:
            told = self.check_all(at_once([[least + 3, least], [least - 1, least + 1]]))
            self.assertEqual(told, {
                (1, "row", "a"): (2, 5), (1, "row", "b"): (3, 5), (2, "place", "a"): (1, 5), (2, "place", "b"): (4, 5),
            })

    def test_a_lift_above_nought_is_needed(self):
        # Without a lift the weight of a word could be 1, whatever the other plan.
        for told in [mosts.most(PENNIES, 1, "one", "heads"), mosts.most(PENNIES, 2, "two", "tails")]:
            self.assertGreater(Fraction(*told[2]), 0)

    def test_some_small_games(self):
        source = random.Random(40)
        found = []
        for game in sound_games(source, 120, 6, is_small):
            found += self.check_all(game).values()
        for first, second in [([2], [2]), ([2, 2], [2]), ([2], [2, 2]), ([3], [3]), ([2, 2], [2, 2]), ([4], [2])] * 4:
            found += self.check_all(crossed(source, first, second)).values()
        for told in [NOUGHT, ONE]:
            self.assertGreater(found.count(told), 20)
        self.assertGreater(len([told for told in found if told not in (NOUGHT, ONE)]), 20)

    def test_deep_records_and_like_stakes(self):
        source = random.Random(41)
        done = 0
        while done < 60:
            game = Maker(source, stakes=(0, 0, 1, -1)).game(6)
            deep = any(len(records[0]) > 1 or len(records[1]) > 1 for way, place, chance, records in walk(game))
            if deep and is_let_by(game) and is_small(game):
                self.check_all(game)
                done += 1

    def test_fractions_as_folding_leaves_them(self):
        stakes = [Fraction(10 ** 40, 7 ** 9), Fraction(-(10 ** 20), 3 ** 30), 0, 10 ** 18]
        source = random.Random(42)
        done = 0
        while done < 15:
            game = Maker(source, stakes).game(4)
            if is_small(game) and slow_rows(game, 1) and slow_rows(game, 2):
                self.check_all(deal("d", (Fraction(1, 997 ** 5), game), (1 - Fraction(1, 997 ** 5), game)))
                done += 1

    def test_sums_at_seven(self):
        source = random.Random(43)
        for first, second in [([6], [6]), ([3, 2], [3, 2]), ([2, 2, 2], [4]), ([4], [2, 2, 2]), ([1, 4], [2, 3])]:
            game = crossed(source, first, second)
            self.assertEqual(max(both_sums(game)), 7)
            self.check_all(game)
        for first, second in [([5, 2], []), ([], [4, 3]), ([1] * 7, [])]:
            game = names(source, first, second)
            self.assertEqual(max(both_sums(game)), 7)
            self.check_all(game)

    def test_sums_at_eight(self):
        source = random.Random(44)
        for first, second in [([1, 1], [6]), ([6], [1, 1]), ([6, 2], []), ([], [6, 2]), ([3, 3], [3, 3]), ([1] * 8, [])]:
            game = names(source, first, second)
            self.assertEqual(max(both_sums(game)), 8)
            for side in (1, 2):
                for row in slow_rows(game, side):
                    with self.assertRaises(TooGreat):
                        mosts.most(game, side, row[1], row[2][0])
                    with self.assertRaises(NoWord):
                        mosts.most(game, side, row[1], "x")
                with self.assertRaises(NoWord):
                    mosts.most(game, side, "x", "a")

    def test_no_word(self):
        wrong = [
            (PENNIES, 1, "two", "heads"), (PENNIES, 2, "one", "heads"), (PENNIES, 1, "one", "bet"),
            (PENNIES, 1, "", "heads"), (PENNIES, 1, "one", ""), (POKER, 2, "bet", "bet"),
            (POKER, 1, "high", "call"), (POKER, 1, "bet", "call"),
            (TWICE, 1, "second", "go"), (TWICE, 1, "go", "first"), (LEAF, 1, "one", "a"), (LEAF, 2, "one", "a"),
            (CHANCE, 1, "coin", "a"), (FOUR_PENNIES, 1, "two0", "heads"), (FOUR_PENNIES, 2, "two0", "side"),
        ]
        for game, side, seen, word in wrong:
            with self.subTest(side=side, seen=seen, word=word):
                with self.assertRaises(NoWord):
                    mosts.most(game, side, seen, word)
        with self.assertRaises(TooGreat):
            mosts.most(FOUR_PENNIES, 2, "two0", "tails")

    def test_like_names_of_both_sides(self):
        game = evenly("d", move(1, "n", a=end(1), b=end(3)), move(2, "n", a=end(1), c=end(3)))
        self.assertEqual(self.check_all(game), {
            (1, "n", "a"): NOUGHT, (1, "n", "b"): ONE, (2, "n", "a"): ONE, (2, "n", "c"): NOUGHT,
        })
        for side, word in [(1, "c"), (2, "b")]:
            with self.assertRaises(NoWord):
                mosts.most(game, side, "n", word)

    def test_handed_in_and_told(self):
        for game in [game for game in WRITTEN + [THREE] if is_small(game)]:
            for side in (1, 2):
                for row in slow_rows(game, side):
                    handed = copy.deepcopy(game)
                    told = mosts.most(handed, side, row[1], row[2][0])
                    wanted = copy.deepcopy(told)
                    self.assertEqual(handed, game)
                    told[1].clear()
                    told[3]["x"] = None
                    self.assertEqual(mosts.most(game, side, row[1], row[2][0]), wanted)


if __name__ == "__main__":
    unittest.main()
