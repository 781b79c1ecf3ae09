"""Promises [27], [28] and [29], [3] where it speaks of words taken out, and [2] of them."""

import copy
import random
import unittest
from fractions import Fraction

from hushduel import trims
from hushduel.balances import balance
from hushduel.errors import NoPlan, NoWord, TooGreat
from hushduel.folds import folded
from hushduel.games import is_game, turned
from hushduel.plans import is_plan
from tests.helpers import (
    CHANCE, FOUR_PENNIES, HALF, LEAF, LONE, LONE_TWO, ONE, PENNIES, POKER, STRANGE, TWICE, WRITTEN, Maker, at_once,
    both_sums, crossed, deal, end, evenly, is_let_by, is_small, move, names, pair, pure, pure_plans, slow_held, slow_rows,
    slow_table, slow_weight, sound_games, walk, words_of,
)

NOUGHT = (0, 1)
THIRD = (1, 3)
ALONE_B = [("b", ONE)]
# The last row is as good as the two others in halves, and in no other shares.
HALVES = at_once([[3, 0], [0, 3], [Fraction(3, 2), Fraction(3, 2)]])
# The first column is never better for side 2; without it, the first row is not better for side 1 either.
LATER = at_once([[3, 0], [2, 2]])
# Side 2 sees z behind two names of side 1, between which z stands in the table.
GOING = evenly(
    "d",
    move(1, "k", a=move(2, "z", x=end(5), y=end(-5)), b=end(9)),
    move(1, "m", a=move(2, "z", x=end(5), y=end(-5)), b=end(9)),
)


def slow_lasts(game, row):
    """The last words at a row's name."""
    rows = slow_rows(game, row[0])
    return [word for word in row[2] if not any((row[1], word) in other[3] for other in rows)]


def slow_word(game, side, seen, word, plan):
    """What a last word brings: the sum over the ends behind it, without the shares of its own side."""
    words = words_of(game, 3 - side)
    result = Fraction(0)
    for way, place, chance, records in walk(game):
        if place[0] == "end" and (seen, word) in records[side - 1]:
            result += Fraction(*place[1]) * chance * slow_weight(records[2 - side], words, plan)
    return result


def slow_without(game, side, seen, word):
    if game[0] == "end":
        return game
    out = game[:3] == ("move", side, seen)
    ways = tuple(
        (lead, slow_without(branch, side, seen, word)) for lead, branch in game[-1] if not (out and lead == word)
    )
    return game[:-1] + (ways,)


def slow_trim(game):
    """Each word of the table asked in its turn, in the game as it is by then."""
    left, gone = game, []
    for side, seen, words, record in slow_table(game):
        for word in words:
            there = words_of(left, side).get(seen)
            told = trims.never_better(left, side, seen, word) if there else None
            if told and told[0] == "never":
                gone.append((side, seen, word, [(each, share) for each, share in zip(there, told[1]) if share != NOUGHT]))
                left = slow_without(left, side, seen, word)
    return left, gone


def is_mixed(game):
    return is_small(game) and len(slow_rows(game, 1)) > 0 and len(slow_rows(game, 2)) > 0


class NeverBetter(unittest.TestCase):
    def check_never(self, game, side, shares, row, word):
        self.assertIs(type(shares), tuple)
        self.assertEqual(len(shares), len(row[2]))
        by_word = {each: Fraction(*share) for each, share in zip(row[2], shares)}
        self.assertGreaterEqual(min(by_word.values()), 0)
        self.assertEqual(sum(by_word.values()), 1)
        self.assertEqual(by_word[word], 0)
        lasts = slow_lasts(game, row)
        self.assertEqual([each for each, share in by_word.items() if share > 0 and each not in lasts], [])
        for plan in pure_plans(game, 3 - side):
            brought = sum(by_word[each] * slow_word(game, side, row[1], each, plan) for each in lasts)
            alone = slow_word(game, side, row[1], word, plan)
            self.assertTrue(brought >= alone if side == 1 else brought <= alone)

    def check_sometimes(self, game, side, plan, row, word):
        self.assertIs(is_plan(game, 3 - side, plan), True)
        alone = slow_word(game, side, row[1], word, plan)
        for each in slow_lasts(game, row):
            if each != word:
                brought = slow_word(game, side, row[1], each, plan)
                self.assertTrue(alone > brought if side == 1 else alone < brought)

    def check_word(self, game, row, word):
        side = row[0]
        told = trims.never_better(game, side, row[1], word)
        lasts = slow_lasts(game, row)
        if word not in lasts or len(lasts) == 1:
            self.assertIsNone(told)
            return "none"
        self.assertIs(type(told), tuple)
        self.assertEqual(len(told), 2)
        if told[0] == "never":
            self.check_never(game, side, told[1], row, word)
        else:
            self.assertEqual(told[0], "sometimes")
            self.check_sometimes(game, side, told[1], row, word)
        return told[0]

    def check_all(self, game):
        return {
            (row[0], row[1], word): self.check_word(game, row, word) for row in slow_table(game) for word in row[2]
        }

    def test_written_out(self):
        self.assertEqual(self.check_all(LONE), {
            (1, "only", "a"): "never", (1, "only", "b"): "sometimes", (1, "only", "c"): "never",
        })
        self.assertEqual(self.check_all(LONE_TWO), {(2, "only", "a"): "never", (2, "only", "b"): "sometimes"})
        self.assertEqual(set(self.check_all(PENNIES).values()), {"sometimes"})
        self.assertEqual(self.check_all(POKER), {
            (1, "high", "bet"): "sometimes", (1, "high", "stay"): "never", (1, "low", "bet"): "sometimes",
            (1, "low", "stay"): "sometimes", (2, "bet", "call"): "sometimes", (2, "bet", "fold"): "sometimes",
        })
        self.assertEqual(trims.never_better(POKER, 1, "high", "stay"), ("never", (ONE, NOUGHT)))
        self.assertEqual(trims.never_better(LONE_TWO, 2, "only", "a"), ("never", (NOUGHT, ONE)))
        self.assertEqual(trims.never_better(LONE_TWO, 2, "only", "b"), ("sometimes", {}))

    def test_only_shares_of_several_do_as_well(self):
        self.assertEqual(trims.never_better(HALVES, 1, "row", "c"), ("never", (HALF, HALF, NOUGHT)))
        self.assertEqual(trims.never_better(turned(HALVES), 2, "row", "c"), ("never", (HALF, HALF, NOUGHT)))
        for game in [HALVES, turned(HALVES)]:
            self.assertEqual(list(self.check_all(game).values()), ["sometimes"] * 2 + ["never"] + ["sometimes"] * 2)
        for stake, wanted in [(Fraction(301, 200), "sometimes"), (1, "never"), (-5, "never"), (2, "sometimes")]:
            told = self.check_all(at_once([[stake, stake], [3, 0], [0, 3]]))
            self.assertEqual(told[(1, "row", "a")], wanted)

    def test_as_good_is_not_better(self):
        game = at_once([[1, 2], [1, 2]])
        self.assertEqual(trims.never_better(game, 1, "row", "a"), ("never", (NOUGHT, ONE)))
        self.assertEqual(trims.never_better(game, 1, "row", "b"), ("never", (ONE, NOUGHT)))
        self.assertEqual(self.check_all(game)[(2, "place", "a")], "sometimes")
        self.assertEqual(trims.never_better(game, 2, "place", "b"), ("never", (ONE, NOUGHT)))

    def test_words_that_are_no_last_words(self):
        self.assertEqual(self.check_all(TWICE), {
            (1, "first", "go"): "none", (1, "first", "stay"): "none", (1, "second", "up"): "sometimes",
            (1, "second", "down"): "never", (1, "third", "up"): "never", (1, "third", "down"): "sometimes",
            (2, "reply", "left"): "sometimes", (2, "reply", "right"): "sometimes",
        })
        # Side 2 sees side 1's last word; two of three words are last ones, and the third, though better, is not asked for.
        game = move(
            1, "k",
            far=move(2, "z", p=move(1, "l", x=end(9), y=end(8)), q=end(9)),
            near=move(2, "w", p=end(1), q=end(0)),
            here=end(1),
        )
        self.assertIsNone(trims.never_better(game, 1, "k", "far"))
        self.assertEqual(trims.never_better(game, 1, "k", "near"), ("never", (NOUGHT, NOUGHT, ONE)))
        self.assertEqual(trims.never_better(game, 1, "k", "here")[0], "sometimes")
        self.check_all(game)
        self.check_all(turned(game))

    def test_a_word_is_last_where_the_other_side_goes_on(self):
        game = move(1, "k", a=move(2, "z", p=end(1), q=end(2)), b=move(2, "z", p=end(0), q=end(2)))
        self.assertEqual(trims.never_better(game, 1, "k", "b"), ("never", (ONE, NOUGHT)))
        self.assertEqual(trims.never_better(game, 1, "k", "a")[0], "sometimes")
        # The same name and word of the other side's record does not count.
        game = move(2, "k", a=move(1, "k", a=end(1), b=end(2)), b=end(0))
        self.assertEqual(trims.never_better(game, 1, "k", "a"), ("never", (NOUGHT, ONE)))
        self.assertEqual(trims.never_better(game, 2, "k", "a"), ("never", (NOUGHT, ONE)))

    def test_what_is_not_behind_the_name_does_not_count(self):
        # Words at n bring what they bring behind n; however much is won elsewhere.
        inner = move(1, "n", a=end(1), b=end(2))
        game = move(1, "k", up=move(2, "z", p=inner, q=end(50)), down=end(100))
        self.assertEqual(trims.never_better(game, 1, "n", "a"), ("never", (NOUGHT, ONE)))
        self.assertEqual(trims.never_better(game, 1, "n", "b")[0], "sometimes")
        self.check_all(game)
        self.check_all(evenly("d", move(2, "y", p=game, q=end(-40), r=end(3)), end(2), end(9)))

    def test_the_plan_tells_of_names_off_the_way_too(self):
        game = evenly(
            "d",
            move(1, "k", a=move(2, "z", p=end(1), q=end(-1)), b=end(0)),
            move(1, "off", x=move(2, "w", p=end(1), q=end(2)), y=move(2, "z", p=end(1), q=end(1))),
        )
        told = trims.never_better(game, 1, "k", "a")
        self.assertEqual(told[0], "sometimes")
        self.assertEqual(set(told[1]), {"z", "w"})
        self.check_all(game)
        self.check_all(turned(game))

    def test_some_small_games(self):
        source = random.Random(60)
        found = []
        for game in sound_games(source, 200, 6, is_mixed):
            found += self.check_all(game).values()
            found += self.check_all(turned(game)).values()
        for first, second in [([3], [3]), ([2, 2], [2, 2]), ([4], [2]), ([2], [4]), ([3], [2, 2]), ([6], [6])] * 3:
            found += self.check_all(crossed(source, first, second)).values()
        for told in ["none", "never", "sometimes"]:
            self.assertGreater(found.count(told), 50)

    def test_like_stakes_and_deep_records(self):
        source = random.Random(61)
        done = 0
        while done < 100:
            game = Maker(source, stakes=(0, 0, 1, -1)).game(7)
            if is_let_by(game) and is_mixed(game) and max(len(row[3]) for row in slow_table(game)) > 0:
                self.check_all(game)
                done += 1

    def test_fractions_as_folding_leaves_them(self):
        source = random.Random(62)
        stakes = [Fraction(10 ** 40, 7 ** 9), Fraction(-(10 ** 20), 3 ** 30), 0, 10 ** 18]
        done = 0
        while done < 15:
            game = Maker(source, stakes).game(5)
            if is_mixed(game) and is_let_by(game):
                self.check_all(folded(deal("d", (Fraction(1, 997 ** 4), game), (1 - Fraction(1, 997 ** 4), end(0)))))
                done += 1

    def test_sums_at_seven_and_at_eight(self):
        source = random.Random(63)
        for first, second in [([6], [6]), ([3, 2], [3, 2]), ([1, 4], [2, 3]), ([2, 2, 2], [4])]:
            game = crossed(source, first, second)
            self.assertEqual(max(both_sums(game)), 7)
            self.check_all(game)
        for first, second in [([2, 1], [6]), ([6], [2, 2]), ([6, 2], []), ([], [6, 2]), ([3, 3], [3, 3]), ([5], [2, 2, 2])]:
            game = names(source, first, second)
            self.assertGreaterEqual(max(both_sums(game)), 8)
            for row in slow_table(game):
                for word in row[2]:
                    if len(row[2]) == 1:
                        self.assertIsNone(trims.never_better(game, row[0], row[1], word))
                    else:
                        with self.assertRaises(TooGreat):
                            trims.never_better(game, row[0], row[1], word)

    def test_none_also_in_games_that_are_not_small(self):
        lone = move(1, "k", go=move(1, "l", x=end(1), y=end(2)), stay=end(0))
        game = evenly("d", lone, *[move(1, "n" + str(number), a=end(1), b=end(2)) for number in range(3)])
        self.assertFalse(is_small(game))
        for word in ["go", "stay"]:
            self.assertIsNone(trims.never_better(game, 1, "k", word))
            self.assertIsNone(trims.never_better(turned(game), 2, "k", word))
        for seen, word in [("l", "x"), ("n0", "a"), ("n2", "b")]:
            with self.assertRaises(TooGreat):
                trims.never_better(game, 1, seen, word)

    def test_no_word_ahead_of_all(self):
        lone = move(1, "k", go=move(1, "l", x=end(1), y=end(2)), stay=end(0))
        great = evenly("d", lone, *[move(2, "n" + str(number), a=end(1), b=end(2)) for number in range(4)])
        self.assertFalse(is_small(great))
        wrong = [
            (great, 1, "k", "x"), (great, 1, "n0", "a"), (great, 2, "k", "go"), (great, 2, "n3", "c"), (great, 1, "", ""),
            (FOUR_PENNIES, 1, "one0", "none"), (PENNIES, 1, "two", "heads"), (PENNIES, 2, "one", "tails"),
            (LEAF, 1, "k", "a"), (CHANCE, 2, "coin", "a"), (TWICE, 1, "first", "up"), (TWICE, 1, "second", "go"),
            (LONE, 1, "only", "d"),
        ]
        for game, side, seen, word in wrong:
            with self.subTest(side=side, seen=seen, word=word):
                with self.assertRaises(NoWord):
                    trims.never_better(game, side, seen, word)

    def test_handed_in_and_told(self):
        for game in [PENNIES, POKER, TWICE, HALVES]:
            for row in slow_table(game):
                for word in row[2]:
                    handed = copy.deepcopy(game)
                    told = trims.never_better(handed, row[0], row[1], word)
                    wanted = copy.deepcopy(told)
                    self.assertEqual(handed, game)
                    if told and told[0] == "sometimes":
                        told[1].clear()
                    self.assertEqual(trims.never_better(game, row[0], row[1], word), wanted)


class Trimmed(unittest.TestCase):
    def check_trim(self, game):
        told = trims.trimmed(game)
        self.assertEqual([type(part) for part in told], [tuple, list])
        self.assertIs(type(told), tuple)
        self.assertEqual(told, slow_trim(game))
        self.assertIs(is_game(told[0]), True)
        for side, seen, word, shares in told[1]:
            self.assertIs(type(shares), list)
            self.assertEqual(sum(Fraction(*share) for each, share in shares), 1)
        return told

    def test_games_of_which_nothing_is_taken_out(self):
        for game in [LEAF, CHANCE, PENNIES, end(Fraction(-7, 3)), at_once([[0, -1, 1], [1, 0, -1], [-1, 1, 0]])]:
            self.assertEqual(self.check_trim(game), (game, []))

    def test_written_out(self):
        left, gone = self.check_trim(LONE)
        self.assertEqual([each[:3] for each in gone], [(1, "only", "a"), (1, "only", "c")])
        self.assertEqual((left, gone[1][3]), (move(1, "only", b=end(3)), ALONE_B))
        left, gone = self.check_trim(POKER)
        self.assertEqual(gone, [(1, "high", "stay", [("bet", ONE)])])
        self.assertEqual(left, evenly(
            "card",
            move(1, "high", bet=move(2, "bet", call=end(2), fold=end(1))),
            move(1, "low", bet=move(2, "bet", call=end(-2), fold=end(1)), stay=end(-1)),
        ))
        left, gone = self.check_trim(LONE_TWO)
        self.assertEqual(gone, [(2, "only", "a", ALONE_B)])
        self.assertEqual(left, evenly("coin", move(2, "only", b=end(-3)), move(2, "only", b=end(Fraction(9, 2)))))

    def test_shares_of_several(self):
        left, gone = self.check_trim(HALVES)
        self.assertEqual(gone, [(1, "row", "c", [("a", HALF), ("b", HALF)])])
        self.assertEqual(left, at_once([[3, 0], [0, 3]]))
        # As the words stood then: with a word gone, those behind it count on.
        game = at_once([[-9, -9], [3, 0], [Fraction(3, 2), Fraction(3, 2)], [0, 3]])
        left, gone = self.check_trim(game)
        self.assertEqual([each[:3] for each in gone], [(1, "row", "a"), (1, "row", "c")])
        self.assertEqual(gone[1][3], [("b", HALF), ("d", HALF)])

    def test_each_is_asked_once_in_its_turn(self):
        left, gone = self.check_trim(LATER)
        self.assertEqual(gone, [(2, "place", "a", ALONE_B)])
        self.assertEqual(left, move(1, "row", a=move(2, "place", b=end(0)), b=move(2, "place", b=end(2))))
        # Trimmed again, the row goes too.
        self.assertEqual(self.check_trim(left)[1], [(1, "row", "a", ALONE_B)])
        # Turned about, the row is asked after the column has gone.
        other = move(2, "place", a=move(1, "row", a=end(3), b=end(2)), b=move(1, "row", a=end(0), b=end(2)))
        left, gone = self.check_trim(other)
        self.assertEqual(gone, [(2, "place", "a", ALONE_B), (1, "row", "a", ALONE_B)])
        self.assertEqual(left, move(2, "place", b=move(1, "row", b=end(2))))

    def test_of_two_alike_the_first_goes(self):
        left, gone = self.check_trim(at_once([[1, 1], [1, 1]]))
        self.assertEqual(gone, [(1, "row", "a", ALONE_B), (2, "place", "a", ALONE_B)])
        self.assertEqual(left, move(1, "row", b=move(2, "place", b=end(1))))

    def test_names_that_are_no_longer_there(self):
        game = move(1, "k", a=move(2, "z", x=end(-5), y=end(-6)), b=end(0))
        self.assertEqual(self.check_trim(game), (move(1, "k", b=end(0)), [(1, "k", "a", ALONE_B)]))
        left, gone = self.check_trim(GOING)
        self.assertEqual(gone, [(1, "k", "a", ALONE_B), (2, "z", "x", [("y", ONE)]), (1, "m", "a", ALONE_B)])
        self.assertEqual(left, evenly("d", move(1, "k", b=end(9)), move(1, "m", b=end(9))))

    def test_a_word_becomes_a_last_one(self):
        # Side 2's u has w behind it only where side 1 goes a, which is taken out first.
        game = move(
            1, "k",
            a=move(2, "z", u=move(2, "w", p=end(-9), q=end(-8)), v=end(-7)),
            b=move(2, "z", u=end(1), v=end(3)),
        )
        self.assertIsNone(trims.never_better(game, 2, "z", "u"))
        left, gone = self.check_trim(game)
        self.assertEqual(gone, [(1, "k", "a", ALONE_B), (2, "z", "v", [("u", ONE)])])
        self.assertEqual(left, move(1, "k", b=move(2, "z", u=end(1))))

    def test_too_great_is_the_whole_game(self):
        source = random.Random(64)
        for first, second in [([1] * 8, []), ([], [1] * 8), ([6, 2], []), ([], [6, 2]), ([3, 3], [3, 3]), ([2, 1], [6])]:
            with self.assertRaises(TooGreat):
                trims.trimmed(names(source, first, second))
        # With the first word taken out it would be small.
        many = move(1, "k", a=move(2, "z", **{word: end(-9) for word in "abcdef"}), b=move(2, "w", x=end(1), y=end(2)))
        self.assertFalse(is_small(many))
        for game in [many, turned(many), FOUR_PENNIES]:
            with self.assertRaises(TooGreat):
                trims.trimmed(game)

    def test_some_small_games(self):
        source = random.Random(65)
        found = 0
        for game in sound_games(source, 250, 6, is_mixed):
            found += len(self.check_trim(game)[1]) > 1
        self.assertGreater(found, 30)

    def test_handed_in_and_told(self):
        for game in [POKER, GOING, HALVES, LATER]:
            handed = copy.deepcopy(game)
            told = trims.trimmed(handed)
            wanted = copy.deepcopy(told)
            self.assertEqual(handed, game)
            told[1][0][3].clear()
            told[1].clear()
            self.assertEqual(trims.trimmed(game), wanted)


class Filled(unittest.TestCase):
    def check_filled(self, game):
        left, gone = trims.trimmed(game)
        worth, one, two = balance(left)
        full = [trims.filled(game, 1, one, gone), trims.filled(game, 2, two, gone)]
        for side, plan, small in [(1, full[0], one), (2, full[1], two)]:
            self.assertIs(is_plan(game, side, plan), True)
            self.assertEqual(pair(slow_held(game, side, plan)), worth)
            self.check_shares(game, left, gone, side, plan, small)
        return sum(len(part) for part in full) - len(one) - len(two)

    def check_shares(self, game, left, gone, side, plan, small):
        out = [each[1:3] for each in gone if each[0] == side]
        for seen, words in words_of(game, side).items():
            rest = [word for word in words if (seen, word) not in out]
            there = words_of(left, side).get(seen)
            wanted = dict(zip(there, small[seen])) if there else {rest[0]: ONE}
            self.assertEqual(plan[seen], tuple(wanted.get(word, NOUGHT) for word in words))

    def test_written_out(self):
        gone = trims.trimmed(POKER)[1]
        plan = {"low": (THIRD, (2, 3)), "high": (ONE,)}
        self.assertEqual(trims.filled(POKER, 1, plan, gone), {"high": (ONE, NOUGHT), "low": (THIRD, (2, 3))})
        self.assertEqual(trims.filled(POKER, 2, {"bet": (HALF, HALF)}, gone), {"bet": (HALF, HALF)})
        gone = trims.trimmed(HALVES)[1]
        self.assertEqual(trims.filled(HALVES, 1, {"row": (THIRD, (2, 3))}, gone), {"row": (THIRD, (2, 3), NOUGHT)})
        gone = trims.trimmed(LATER)[1]
        self.assertEqual(trims.filled(LATER, 2, {"place": (ONE,)}, gone), {"place": (NOUGHT, ONE)})

    def test_names_that_are_no_longer_there(self):
        game = move(1, "k", a=move(2, "z", x=end(-5), y=end(-6)), b=end(0))
        gone = trims.trimmed(game)[1]
        self.assertEqual(trims.filled(game, 2, {}, gone), {"z": (ONE, NOUGHT)})
        # Of z the first word was taken out before the name was gone.
        gone = trims.trimmed(GOING)[1]
        self.assertEqual(trims.filled(GOING, 2, {}, gone), {"z": (NOUGHT, ONE)})
        self.assertEqual(trims.filled(GOING, 1, {"m": (ONE,), "k": (ONE,)}, gone), {"k": (NOUGHT, ONE), "m": (NOUGHT, ONE)})

    def test_nothing_taken_out(self):
        plan = {"one": (THIRD, (2, 3))}
        told = trims.filled(PENNIES, 1, plan, [])
        self.assertEqual(told, plan)
        self.assertIsNot(told, plan)
        self.assertEqual(trims.filled(LEAF, 1, {}, []), {})

    def test_filled_up_they_are_a_balance(self):
        source = random.Random(66)
        for game in [game for game in WRITTEN + [HALVES, LATER, GOING] if is_small(game)]:
            self.check_filled(game)
            self.check_filled(turned(game))
        gone = 0
        for game in sound_games(source, 350, 6, is_mixed):
            gone += self.check_filled(game) > 0
        self.assertGreater(gone, 3)
        for first, second in [([3], [3]), ([2, 2], [2, 2]), ([4], [2]), ([2], [4]), ([6], [6])] * 4:
            self.check_filled(crossed(source, first, second))

    def test_like_stakes_and_deep_records(self):
        source = random.Random(67)
        done = 0
        while done < 150:
            game = Maker(source, stakes=(0, 0, 1, -1)).game(7)
            if is_let_by(game) and is_mixed(game):
                self.check_filled(game)
                done += 1

    def test_a_folded_game_is_trimmed_and_filled_up(self):
        source = random.Random(68)
        for game in sound_games(source, 20, 5, is_mixed):
            chance = Fraction(1, 997 ** 3)
            whole = folded(deal("d", (chance, game), (1 - chance, deal("e", (chance, LONE_TWO), (1 - chance, end(2))))))
            if is_small(whole):
                self.check_filled(whole)

    def test_no_plan_for_the_trimmed_game(self):
        gone = trims.trimmed(POKER)[1]
        wrong = STRANGE + [
            {}, {"high": (ONE, NOUGHT), "low": (HALF, HALF)}, {"high": (ONE,)}, {"high": (ONE,), "low": (HALF, THIRD)},
            {"high": (ONE,), "low": [HALF, HALF]}, {"high": (ONE,), "low": ((3, 2), (-1, 2))}, {"bet": (HALF, HALF)},
            {"high": (ONE,), "low": (HALF, HALF), "bet": (HALF, HALF)}, {"high": (HALF,), "low": (HALF, HALF)},
        ]
        for thing in wrong:
            with self.subTest(thing=thing):
                with self.assertRaises(NoPlan):
                    trims.filled(POKER, 1, thing, gone)
        with self.assertRaises(NoPlan):
            trims.filled(POKER, 2, {"high": (ONE,), "low": (HALF, HALF)}, gone)
        # A name that went with a word of the other side is no name of the trimmed game's plans.
        gone = trims.trimmed(GOING)[1]
        for thing in [{"z": (NOUGHT, ONE)}, {"z": (ONE,)}]:
            with self.assertRaises(NoPlan):
                trims.filled(GOING, 2, thing, gone)

    def test_handed_in_and_told(self):
        gone = trims.trimmed(GOING)[1]
        kept = copy.deepcopy(gone)
        plan = {"m": (ONE,), "k": (ONE,)}
        told = trims.filled(GOING, 1, plan, gone)
        wanted = dict(told)
        self.assertEqual((plan, gone), ({"m": (ONE,), "k": (ONE,)}, kept))
        told.clear()
        self.assertEqual(plan, {"m": (ONE,), "k": (ONE,)})
        self.assertEqual(trims.filled(GOING, 1, plan, gone), wanted)
        self.assertEqual(pure(1, 2), wanted["k"])


if __name__ == "__main__":
    unittest.main()
