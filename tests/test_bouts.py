"""Promise [32], and [2] of it."""

import copy
import random
import unittest
from fractions import Fraction

from hushduel.balances import balance
from hushduel.bouts import Bout
from hushduel.errors import NoPlace, TooGreat
from hushduel.folds import folded
from hushduel.plans import is_plan
from tests.helpers import (
    CHANCE, FOUR_PENNIES, HALF, LEAF, LONE, ONE, PENNIES, POKER, TWICE, WRITTEN, at_once, both_sums, deal, end, evenly,
    is_small, move, names, pair, slow_held, sound_games, walk,
)

NOUGHT = (0, 1)
THIRD = (1, 3)


def at_pennies(*stakes):
    return move(
        1, "one",
        heads=move(2, "two", heads=end(stakes[0]), tails=end(stakes[1])),
        tails=move(2, "two", heads=end(stakes[2]), tails=end(stakes[3])),
    )


def slow_put(game, way, stake):
    """The game built anew from the end on."""
    if way == ():
        return ("end", stake)
    ways = [
        (lead, slow_put(branch, way[1:], stake) if number == way[0] else branch)
        for number, (lead, branch) in enumerate(game[-1])
    ]
    return game[:-1] + (tuple(ways),)


def ends_of(game):
    return [way for way, place, chance, records in walk(game) if place[0] == "end"]


def both_held(game, papers):
    return (pair(slow_held(game, 1, papers[0])), pair(slow_held(game, 2, papers[1])))


class Bouts(unittest.TestCase):
    def check_asked(self, bout, game):
        """Asks for papers and worth, and holds them against all pure plans."""
        self.assertEqual(bout.now(), game)
        papers = bout.papers()
        self.assertEqual([type(part) for part in papers], [dict, dict])
        self.assertIs(type(papers), tuple)
        for side in (1, 2):
            self.assertIs(is_plan(game, side, papers[side - 1]), True)
        worth = bout.worth()
        self.assertEqual(both_held(game, papers), (worth, worth))
        self.assertEqual(bout.line(), (worth, worth))
        self.assertEqual(worth, balance(game)[0])
        return papers

    def test_as_it_is_made(self):
        for game in [game for game in WRITTEN if is_small(game)]:
            bout = Bout(game)
            self.assertIs(type(bout.line()), tuple)
            self.assertEqual(bout.line(), (balance(game)[0], balance(game)[0]))
            self.check_asked(bout, game)

    def test_stakes_that_are_put(self):
        bout = Bout(PENNIES)
        self.assertIsNone(bout.put((0, 0), (3, 1)))
        self.assertEqual(bout.now(), at_pennies(3, -1, -1, 1))
        self.assertIsNone(bout.put((1, 1), (-7, 2)))
        self.assertIsNone(bout.put((0, 1), NOUGHT))
        self.assertEqual(bout.now(), at_pennies(3, 0, -1, Fraction(-7, 2)))
        bout.put((0, 0), HALF)
        bout.put((0, 0), ONE)
        self.check_asked(bout, at_pennies(1, 0, -1, Fraction(-7, 2)))

    def test_an_end_alone(self):
        bout = Bout(LEAF)
        bout.put((), (5, 3))
        self.assertEqual((bout.now(), bout.worth(), bout.papers()), (end(Fraction(5, 3)), (5, 3), ({}, {})))
        self.assertEqual(bout.line(), ((5, 3), (5, 3)))

    def test_the_line_tells_of_the_last_papers(self):
        bout = Bout(PENNIES)
        bout.put((0, 0), (3, 1))
        # The papers are the halves still, which hold less and more than the worth of the game as it stands.
        self.assertEqual(bout.line(), (NOUGHT, ONE))
        self.assertEqual(bout.line(), (NOUGHT, ONE))
        self.assertEqual(bout.worth(), THIRD)
        self.assertEqual(bout.line(), (THIRD, THIRD))
        self.assertEqual(bout.papers(), ({"one": (THIRD, (2, 3))}, {"two": (THIRD, (2, 3))}))
        bout.put((0, 0), ONE)
        self.assertEqual(bout.line(), ((-1, 3), THIRD))
        self.assertEqual(bout.papers(), ({"one": (HALF, HALF)}, {"two": (HALF, HALF)}))
        self.assertEqual(bout.line(), (NOUGHT, NOUGHT))

    def test_papers_that_are_a_balance_still_are_kept(self):
        # Any two plans are a balance of a game whose stakes are all alike, so none is sought anew.
        bout = Bout(PENNIES)
        for way in ends_of(PENNIES):
            bout.put(way, (7, 1))
        self.assertEqual(bout.papers(), ({"one": (HALF, HALF)}, {"two": (HALF, HALF)}))
        self.assertEqual(bout.worth(), (7, 1))
        self.assertEqual(bout.papers(), ({"one": (HALF, HALF)}, {"two": (HALF, HALF)}))
        # Nor by asking in between, where they were no balance for a while.
        bout = Bout(PENNIES)
        bout.put((0, 0), (3, 1))
        bout.line()
        bout.now()
        for way in ends_of(PENNIES):
            bout.put(way, (-2, 1))
        self.assertEqual(bout.papers(), ({"one": (HALF, HALF)}, {"two": (HALF, HALF)}))

    def test_papers_found_anew_by_worth_alone(self):
        bout = Bout(PENNIES)
        bout.put((0, 0), (3, 1))
        bout.worth()
        for way in ends_of(PENNIES):
            bout.put(way, NOUGHT)
        self.assertEqual(bout.papers(), ({"one": (THIRD, (2, 3))}, {"two": (THIRD, (2, 3))}))

    def test_no_place(self):
        for game, ways in [
            (PENNIES, [(), (0,), (1,), (2,), (0, 2), (0, 0, 0), (-1, 0), (0, -1), (5, 5), (0, 0, 0, 0)]),
            (POKER, [(), (0,), (0, 0), (1, 0), (2,), (0, 1, 0), (0, 0, 2)]), (LEAF, [(0,), (1,), (0, 0), (-1,)]),
            (CHANCE, [(), (1,), (2,), (1, 2), (0, 0)]),
        ]:
            bout = Bout(game)
            for way in ways:
                with self.assertRaises(NoPlace):
                    bout.put(way, (9, 1))
                self.assertEqual(bout.now(), game)
            worth = balance(game)[0]
            self.assertEqual(bout.line(), (worth, worth))

    def test_too_great(self):
        source = random.Random(80)
        for first, second in [([1, 1], [6]), ([6], [1, 1]), ([6, 2], []), ([], [6, 2]), ([1] * 8, [])]:
            game = names(source, first, second)
            self.assertEqual(max(both_sums(game)), 8)
            with self.assertRaises(TooGreat):
                Bout(game)
        with self.assertRaises(TooGreat):
            Bout(FOUR_PENNIES)
        game = names(source, [2, 2, 2], [4])
        self.check_asked(Bout(game), game)

    def test_two_bouts_beside_one_another(self):
        first, second = Bout(PENNIES), Bout(PENNIES)
        first.put((0, 0), (3, 1))
        self.assertEqual(second.now(), PENNIES)
        self.assertEqual(second.line(), (NOUGHT, NOUGHT))
        first.papers()[0].clear()
        self.assertEqual((first.worth(), second.worth()), (THIRD, NOUGHT))
        self.assertEqual(second.papers(), ({"one": (HALF, HALF)}, {"two": (HALF, HALF)}))
        third = Bout(first.now())
        third.put((0, 0), (5, 1))
        self.assertEqual(first.now(), at_pennies(3, -1, -1, 1))

    def test_some_bouts(self):
        source = random.Random(81)
        changed = 0
        for game in sound_games(source, 100, 5, is_small) + [at_once([[1, -1, 0], [-2, 3, 1]]), POKER, TWICE, LONE] * 3:
            bout = Bout(game)
            papers = bout.papers()
            for step in range(8):
                way = source.choice(ends_of(game))
                stake = pair(Fraction(source.randint(-9, 9), source.randint(1, 3)))
                game = slow_put(game, way, stake)
                bout.put(way, stake)
                self.assertEqual(bout.now(), game)
                self.assertEqual(bout.line(), both_held(game, papers))
                low, high = both_held(game, papers)
                self.assertTrue(Fraction(*low) <= Fraction(*balance(game)[0]) <= Fraction(*high))
                if source.random() < 0.4:
                    if low == high:
                        self.assertEqual(bout.papers(), papers)
                    else:
                        changed += 1
                    papers = self.check_asked(bout, game)
        self.assertGreater(changed, 30)

    def test_fractions_as_folding_leaves_them(self):
        far = Fraction(1, 997)
        game = folded(deal("d", (far, deal("e", (far, PENNIES), (1 - far, end(2)))), (1 - far, end(3))))
        bout = Bout(game)
        bout.put((0, 0, 0), (10 ** 11, 1))
        self.check_asked(bout, slow_put(game, (0, 0, 0), (10 ** 11, 1)))

    def test_handed_in_and_told(self):
        game = copy.deepcopy(PENNIES)
        bout = Bout(game)
        bout.put((0, 0), (3, 1))
        self.assertEqual(game, PENNIES)
        stood = bout.now()
        papers = bout.papers()
        wanted = copy.deepcopy(papers)
        papers[0].clear()
        papers[1]["two"] = None
        self.assertEqual(bout.papers(), wanted)
        self.assertEqual(bout.line(), (THIRD, THIRD))
        kept = bout.papers()
        bout.put((0, 0), (-9, 1))
        bout.worth()
        self.assertEqual((kept, stood), (wanted, at_pennies(3, -1, -1, 1)))
        for step in range(2):
            other = Bout(evenly("d", game, move(1, "lone", a=end(1), b=end(0))))
            other.put((0, 0, 0), (3, 1))
            self.assertEqual(other.papers(), other.papers())
            self.assertEqual(other.worth(), other.worth())


if __name__ == "__main__":
    unittest.main()
