"""Promise [26], [3] where it speaks of folded games, [13], and [2] of them."""

import copy
import random
import unittest
from fractions import Fraction

from hushduel import folds
from hushduel.balances import balance
from hushduel.errors import TooGreat
from hushduel.games import is_game
from hushduel.looks import look
from tests.helpers import (
    CHANCE, LEAF, LONE, LONE_TWO, PENNIES, POKER, TWICE, WRITTEN, deal, end, evenly, is_let_by, is_small, move, pair,
    pure_plans, slow_brings, slow_held, slow_table, sound_games, walk,
)

# Three deals within one another, each of them a small chance.
FAR = deal("d", (Fraction(1, 997), deal("e", (Fraction(1, 991), PENNIES), (Fraction(990, 991), end(3)))),
           (Fraction(996, 997), deal("f", (Fraction(1, 983), TWICE), (Fraction(982, 983), end(Fraction(5, 7))))))


def slow_fold(game):
    """From the outside: all games that deals alone lead to, with their chances, and these put together."""
    if game[0] == "end":
        return game
    if game[0] == "move":
        return game[:3] + (tuple((word, slow_fold(branch)) for word, branch in game[3]),)
    found = {}

    def dealt(place, chance):
        for share, branch in place[2]:
            if branch[0] == "deal":
                dealt(branch, chance * Fraction(*share))
            else:
                folded = slow_fold(branch)
                found[folded] = found.get(folded, 0) + chance * Fraction(*share)
    dealt(game, Fraction(1))
    if len(found) == 1:
        return list(found)[0]
    return ("deal", game[1], tuple((pair(share), branch) for branch, share in found.items()))


def scattered(source, game):
    """The game with deals put in, some of which deal the same game twice."""
    if game[0] == "end":
        inner = game
    else:
        inner = game[:-1] + (tuple((lead, scattered(source, branch)) for lead, branch in game[-1]),)
    sort = source.choice(["plain", "plain", "plain", "lone", "twice", "within"])
    if sort == "lone":
        return deal("lone", (1, inner))
    if sort == "twice":
        return deal("twice", (Fraction(1, 3), inner), (Fraction(1, 2), end(1)), (Fraction(1, 6), inner))
    if sort == "within":
        within = deal("in", (Fraction(1, 5), inner), (Fraction(4, 5), end(0)))
        return deal("out", (Fraction(1, 4), end(0)), (Fraction(3, 4), within))
    return inner


class Folds(unittest.TestCase):
    def check_fold(self, game):
        told = folds.folded(game)
        self.assertEqual(told, slow_fold(game))
        self.assertIs(is_game(told), True)
        self.assertEqual(folds.folded(told), told)
        self.assertEqual(slow_table(told), slow_table(game))
        for way, place, chance, records in walk(told):
            if place[0] == "deal":
                games = [branch for share, branch in place[2]]
                self.assertGreater(len(games), 1)
                self.assertEqual(len(set(games)), len(games))
                self.assertNotIn("deal", [each[0] for each in games])
                self.assertEqual(sum(Fraction(*share) for share, branch in place[2]), 1)
        return told

    def check_brings(self, game):
        told = self.check_fold(game)
        for one in pure_plans(game, 1):
            for two in pure_plans(game, 2):
                self.assertEqual(slow_brings(told, one, two), slow_brings(game, one, two))

    def test_ends_and_moves_stay(self):
        for game in [LEAF, end(Fraction(-7, 3)), PENNIES, TWICE, LONE, POKER, LONE_TWO]:
            self.assertEqual(self.check_fold(game), game)

    def test_a_deal_within_a_deal(self):
        wanted = deal("die", (Fraction(1, 3), end(6)), (Fraction(1, 3), end(-3)), (Fraction(1, 3), end(Fraction(1, 2))))
        self.assertEqual(self.check_fold(CHANCE), wanted)
        within = deal("b", (Fraction(2, 3), LONE), (Fraction(1, 3), end(1)))
        first = deal("a", (Fraction(1, 4), within), (Fraction(3, 4), PENNIES))
        wanted = deal("a", (Fraction(1, 6), LONE), (Fraction(1, 12), end(1)), (Fraction(3, 4), PENNIES))
        self.assertEqual(self.check_fold(first), wanted)

    def test_deals_several_deep(self):
        game = end(7)
        for number in range(6):
            game = evenly("d" + str(number), game, end(number))
        told = self.check_fold(game)
        shares = [(1, 64), (1, 64), (1, 32), (1, 16), (1, 8), (1, 4), (1, 2)]
        stakes = [7, 0, 1, 2, 3, 4, 5]
        self.assertEqual(told, ("deal", "d5", tuple((share, end(stake)) for share, stake in zip(shares, stakes))))

    def test_deals_within_moves(self):
        inner = evenly("e", evenly("f", end(1), end(2)), end(1))
        game = move(1, "k", a=inner, b=deal("g", (1, move(2, "z", x=inner, y=end(0)))))
        folded = deal("e", (Fraction(3, 4), end(1)), (Fraction(1, 4), end(2)))
        self.assertEqual(self.check_fold(game), move(1, "k", a=folded, b=move(2, "z", x=folded, y=end(0))))

    def test_a_move_between_two_deals_keeps_them_apart(self):
        game = evenly("d", move(1, "k", a=evenly("e", end(1), end(2))), end(1))
        self.assertEqual(self.check_fold(game), game)

    def test_equal_games_put_together(self):
        shares = [Fraction(1, 2), Fraction(1, 3), Fraction(1, 12), Fraction(1, 12)]
        game = deal("d", *zip(shares, [end(1), LONE, end(1), LONE]))
        self.assertEqual(self.check_fold(game), deal("d", (Fraction(7, 12), end(1)), (Fraction(5, 12), LONE)))
        # Equal only once their branches are folded, and across the deals that held them.
        hidden = move(1, "only", a=deal("x", (1, end(1))), b=evenly("y", end(3), end(3)), c=end(2))
        game = evenly("d", evenly("e", end(4), LONE), evenly("f", hidden, end(5)))
        wanted = deal("d", (Fraction(1, 4), end(4)), (Fraction(1, 2), LONE), (Fraction(1, 4), end(5)))
        self.assertEqual(self.check_fold(game), wanted)

    def test_games_that_are_not_equal_stay_apart(self):
        games = [
            move(1, "k", a=end(1), b=end(2)), move(1, "l", a=end(1), b=end(2)), move(1, "m", a=end(1), c=end(2)),
            move(2, "k", a=end(1), b=end(2)), move(1, "k", a=end(1), b=end(3)), end(1), end(-1), end(Fraction(1, 2)),
        ]
        self.assertEqual(self.check_fold(evenly("d", *games)), evenly("d", *games))

    def test_one_way_left(self):
        for game in [LEAF, LONE, PENNIES]:
            self.assertEqual(self.check_fold(deal("d", (1, game))), game)
            self.assertEqual(self.check_fold(evenly("d", game, game, game)), game)
            self.assertEqual(self.check_fold(deal("d", (1, deal("e", (1, game))))), game)
            self.assertEqual(self.check_fold(evenly("d", evenly("e", game, game), deal("f", (1, game)))), game)

    def test_the_name_that_stays(self):
        both = evenly("in", end(1), end(2))
        self.assertEqual(self.check_fold(evenly("out", both, both)), evenly("out", end(1), end(2)))
        # Its ways are put into the outer deal, which has two of them then, so the outer one stays.
        self.assertEqual(self.check_fold(deal("out", (1, both))), evenly("out", end(1), end(2)))

    def test_some_games(self):
        source = random.Random(50)
        for game in WRITTEN + sound_games(source, 200, 6):
            self.check_fold(game)
            self.check_fold(scattered(source, game))

    def test_what_pure_plans_bring(self):
        source = random.Random(51)

        def is_fit(game):
            return len(pure_plans(game, 1)) * len(pure_plans(game, 2)) < 60
        for game in WRITTEN + [FAR] + sound_games(source, 80, 5, is_fit):
            self.check_brings(game)
            self.check_brings(scattered(source, game))

    def test_shares_beyond_the_bounds(self):
        self.assertTrue(is_let_by(FAR))
        look(FAR)
        told = self.check_fold(FAR)
        shares = [(1, 997 * 991), (990, 997 * 991), (996, 997 * 983), (996 * 982, 997 * 983)]
        self.assertEqual([share for share, branch in told[2]], [pair(Fraction(*share)) for share in shares])
        with self.assertRaises(TooGreat):
            look(told)
        game = end(1)
        for number in range(11):
            game = deal("d", (Fraction(1, 997), game), (Fraction(996, 997), end(number % 3)))
        self.check_fold(game)

    def test_the_balance_of_a_folded_game(self):
        source = random.Random(52)
        for game in sound_games(source, 60, 5, is_small):
            whole = scattered(source, game)
            worth, one, two = balance(folds.folded(whole))
            self.assertEqual(pair(slow_held(whole, 1, one)), worth)
            self.assertEqual(pair(slow_held(whole, 2, two)), worth)

    def test_handed_in_stays(self):
        source = random.Random(53)
        for game in [CHANCE, FAR] + sound_games(source, 20, 5):
            handed = copy.deepcopy(game)
            told = folds.folded(handed)
            self.assertEqual(handed, game)
            self.assertEqual(folds.folded(game), told)


if __name__ == "__main__":
    unittest.main()
