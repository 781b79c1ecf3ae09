"""Promise [3] over the whole program, from texts on, and [2] and [13] of what goes through several stages."""

import copy
import os
import pathlib
import random
import subprocess
import sys
import unittest
from fractions import Fraction

from hushduel.answers import best_answer, held
from hushduel.balances import balance, between, is_balance
from hushduel.desk import Desk
from hushduel.errors import Forgets, TooGreat
from hushduel.folds import folded
from hushduel.keens import gain, keener, pulled
from hushduel.looks import look
from hushduel.mixes import mixed, spread
from hushduel.mosts import most
from hushduel.notes import read_plan, show_plan
from hushduel.plans import brings, is_plan, weights_of
from hushduel.texts import read, shown
from hushduel.trims import filled, never_better, trimmed
from tests.helpers import (
    WRITTEN, a_plan, at_once, deal, end, evenly, is_small, move, pair, pure, pure_plans, slow_brings, slow_held, slow_rows,
    slow_table, sound_games, walk,
)

ROOT = pathlib.Path(__file__).resolve().parent.parent
# Asks a desk and the modules for all that there is, and prints it; run under several seeds of Python's hashing.
ASKED = """
from hushduel.desk import Desk
from hushduel.texts import read
from hushduel.trims import trimmed
from hushduel.keens import keener
from hushduel.mosts import most
from hushduel.balances import balance
text = "deal d(1/3 move 1 k(a move 2 z(x end 1, y end -1), b end 0), 2/3 move 1 k(a move 2 z(x end -2, y end 1), b end 0))"
desk = Desk()
desk.say("game g " + text)
for row in ["plan g 1", "plan g 2", "worth g", "best g 1 k 1/2 1/2", "gain g 1 d", "gain g 2 d", "most g 1 k a", "sees g 1"]:
    print(desk.say(row))
game = read(text)
print(balance(game), trimmed(game), keener(game, 1, "d"), most(game, 2, "z", "x"))
"""


def games_asked():
    """Small games of many forms, games at once among deals too."""
    source = random.Random(110)
    found = [game for game in WRITTEN if is_small(game)] + sound_games(source, 80, 5, is_small)
    for step in range(25):
        stakes = [source.randint(-4, 4) for stake in range(8)]
        found.append(evenly("d", at_once([stakes[:2], stakes[2:4]]), at_once([stakes[4:6], stakes[6:]])))
    return found


class Whole(unittest.TestCase):
    @classmethod
    def setUpClass(cls):
        cls.games = games_asked()

    def check_balance(self, game, worth, one, two):
        """Whatever side 2 does the first plan brings no less; whatever side 1 does the second lets it have no more."""
        for other in pure_plans(game, 2):
            self.assertGreaterEqual(slow_brings(game, one, other), Fraction(*worth))
        for other in pure_plans(game, 1):
            self.assertLessEqual(slow_brings(game, other, two), Fraction(*worth))
        self.assertEqual(between(game, one, two), (worth, worth))
        self.assertIs(is_balance(game, one, two), True)

    def test_told_as_text(self):
        for game in self.games:
            self.assertEqual(read(shown(game)), game)
            self.assertEqual(shown(read(shown(game))), shown(game))
            self.assertEqual(look(read(shown(game))), slow_table(game))

    def test_the_balance(self):
        for game in self.games:
            self.check_balance(game, *balance(read(shown(game))))

    def test_plans_let_by_are_a_balance_whoever_made_them(self):
        source = random.Random(111)
        found = 0
        for game in self.games:
            worth, one, two = balance(game)
            for side in (1, 2):
                for plan in [a_plan(source, game, side)] + pure_plans(game, side)[:4]:
                    both = (plan, two) if side == 1 else (one, plan)
                    if slow_held(game, side, plan) == Fraction(*worth):
                        self.check_balance(game, worth, *both)
                        found += 1
                    else:
                        self.assertIs(is_balance(game, *both), False)
        self.assertGreater(found, 50)

    def test_the_best_answer(self):
        source = random.Random(112)
        for game in self.games:
            for side in (1, 2):
                plan = a_plan(source, game, side)
                told, answer, brought = best_answer(game, side, plan)
                both = (plan, answer) if side == 1 else (answer, plan)
                self.assertEqual(brings(game, *both), told)
                self.assertEqual(pair(slow_held(game, side, plan)), told)
                choose = min if side == 1 else max
                for seen, shares in answer.items():
                    amounts = [Fraction(*each) for each in brought[seen]]
                    self.assertEqual(shares.index((1, 1)), amounts.index(choose(amounts)))

    def test_the_folded_game(self):
        for game in self.games:
            told = folded(game)
            self.assertEqual(slow_table(told), slow_table(game))
            for one in pure_plans(game, 1):
                for two in pure_plans(game, 2):
                    self.assertEqual(slow_brings(told, one, two), slow_brings(game, one, two))
            self.check_balance(game, *balance(told))

    def test_the_trimmed_game_filled_up(self):
        found = 0
        for game in self.games:
            for whole in [game, folded(game)]:
                left, gone = trimmed(whole)
                worth, one, two = balance(left)
                self.check_balance(whole, worth, filled(whole, 1, one, gone), filled(whole, 2, two, gone))
                self.assertEqual(worth, balance(whole)[0])
                found += len(gone) > 0
        self.assertGreater(found, 30)

    def test_the_most_of_a_word(self):
        for game in self.games:
            for row in slow_table(game):
                told = most(game, row[0], row[1], row[2][-1])
                plans = balance(game)[1:]
                both = (told[1], plans[1]) if row[0] == 1 else (plans[0], told[1])
                self.check_balance(game, balance(game)[0], *both)
                self.assertEqual(weights_of(game, row[0], told[1])[(row[1], row[2][-1])], told[0])
                weight = weights_of(game, row[0], plans[row[0] - 1])[(row[1], row[2][-1])]
                self.assertLessEqual(Fraction(*weight), Fraction(*told[0]))

    def test_where_a_side_sees_more(self):
        found = 0
        for game in self.games:
            for side in (1, 2):
                keen, new = keener(game, side, "d")
                self.assertEqual(look(keen), slow_table(keen))
                plain = balance(game)
                back = pulled(plain[side], new)
                self.assertEqual(held(keen, side, back), plain[0])
                if is_small(keen):
                    sign = 1 if side == 1 else -1
                    more = sign * (Fraction(*balance(keen)[0]) - Fraction(*plain[0]))
                    self.assertGreaterEqual(more, 0)
                    self.assertEqual(gain(game, side, "d"), pair(more))
                    self.check_balance(keen, *balance(keen))
                    found += more > 0
        self.assertGreater(found, 5)

    def test_somebody_would_forget(self):
        forgets = move(1, "k", a=evenly("d", end(0), move(1, "l", x=end(1))), b=move(2, "z", x=move(1, "l", x=end(2))))
        for ask in [lambda text: look(read(text)), lambda text: Desk().say("game g " + text)]:
            with self.assertRaises(Forgets) as caught:
                ask(shown(forgets))
            self.assertEqual((caught.exception.one, caught.exception.other), ((0, 1), (1, 0)))
            records = {way: records for way, place, chance, records in walk(forgets)}
            self.assertNotEqual(records[(0, 1)][0], records[(1, 0)][0])

    def test_what_is_shown_is_read_again(self):
        for game in self.games:
            for each in [game, folded(game), trimmed(game)[0], keener(game, 1, "d")[0]]:
                self.assertEqual(read(shown(each)), each)
            plans = balance(game)[1:]
            for side in (1, 2):
                text = show_plan(game, side, plans[side - 1])
                self.assertEqual(read_plan(game, side, text), plans[side - 1])

    def test_mixes_of_what_is_told(self):
        for game in self.games:
            worth, one, two = balance(game)
            self.check_balance(game, worth, mixed(game, 1, spread(game, 1, one)), mixed(game, 2, spread(game, 2, two)))

    def test_folded_fractions_go_through_all_stages(self):
        far = Fraction(1, 997)
        coins = at_once([[3, 0], [-1, 1]])
        first, second = [deal("e", (far, coins), (1 - far, end(stake))) for stake in (2, 5)]
        game = folded(deal("d", (far, first), (1 - far, second)))
        with self.assertRaises(TooGreat):
            look(game)
        worth, one, two = balance(game)
        self.check_balance(game, worth, one, two)
        left, gone = trimmed(game)
        small = balance(left)
        self.check_balance(game, small[0], filled(game, 1, small[1], gone), filled(game, 2, small[2], gone))
        for row in slow_table(game):
            self.assertIn(never_better(game, row[0], row[1], row[2][0])[0], ("never", "sometimes"))
            self.assertIs(is_plan(game, row[0], most(game, row[0], row[1], row[2][0])[1]), True)
        self.assertEqual(gain(game, 1, "e"), (0, 1))
        self.assertEqual(read_plan(game, 1, show_plan(game, 1, one)), one)

    def test_nothing_that_is_handed_in_is_changed(self):
        for game in self.games[:40]:
            handed = copy.deepcopy(game)
            worth, one, two = balance(handed)
            kept = copy.deepcopy((worth, one, two))
            left, gone = trimmed(handed)
            held_gone = copy.deepcopy(gone)
            names = keener(handed, 1, "d")[1]
            kept_names = dict(names)
            best_answer(handed, 1, one)
            spread(handed, 2, two)
            pulled(one, names)
            for side in (1, 2):
                filled(handed, side, {row[1]: pure(0, len(row[2])) for row in slow_rows(left, side)}, gone)
                show_plan(handed, side, (one, two)[side - 1])
            self.assertEqual((handed, (worth, one, two), gone, names), (game, kept, held_gone, kept_names))

    def test_nothing_hangs_on_chance(self):
        told = []
        for seed in ["0", "1", "77"]:
            around = {**os.environ, "PYTHONHASHSEED": seed, "PYTHONPATH": str(ROOT), "PYTHONDONTWRITEBYTECODE": "1"}
            ran = subprocess.run([sys.executable, "-c", ASKED], env=around, capture_output=True, text=True, check=True)
            told.append(ran.stdout)
        self.assertEqual(told, [told[0]] * 3)
        self.assertEqual(told[0].count("\n"), 9)


if __name__ == "__main__":
    unittest.main()
