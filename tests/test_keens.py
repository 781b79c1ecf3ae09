"""Promises [30] and [31], [3] where it speaks of a side that sees more, and [2] of them."""

import copy
import random
import unittest
from fractions import Fraction

from hushduel import keens
from hushduel.balances import balance
from hushduel.errors import NoPlan, TooGreat
from hushduel.folds import folded
from hushduel.games import is_game, turned
from hushduel.looks import look
from hushduel.plans import is_plan
from tests.helpers import (
    CHANCE, HALF, LEAF, LONE, LONE_TWO, ONE, PENNIES, POKER, STRANGE, TWICE, WRITTEN, a_plan, at_once, both_sums, deal, end,
    evenly, is_small, move, names, pair, pure_plans, slow_brings, slow_held, slow_rows, slow_table, sound_games, walk,
    words_of,
)

NOUGHT = (0, 1)
THIRD = (1, 3)
# Neither side sees how the coin fell.
BLIND = evenly(
    "coin",
    move(1, "k", up=move(2, "z", x=end(3), y=end(-1)), down=end(0)),
    move(1, "k", up=move(2, "z", x=end(-2), y=end(1)), down=end(0)),
)


def slow_keener(game, side, name):
    """From a list of what the side has seen at each of its places, found anew from the beginning on."""
    fresh = {}

    def seen_at(way):
        place, noticed = game, []
        for number in way:
            if place[0] == "deal" and place[1] == name:
                noticed.append(number)
            if place[0] == "move" and place[1] == side:
                noticed.append((place[2], place[3][number][0]))
            place = place[-1][number][1]
        return (place[2], tuple(noticed))

    for way, place, chance, records in walk(game):
        if place[0] == "move" and place[1] == side and seen_at(way) not in fresh:
            fresh[seen_at(way)] = "s" + str(len(fresh) + 1)

    def anew(place, way):
        if place[0] == "end":
            return place
        head = place[:-1]
        if place[0] == "move" and place[1] == side:
            head = ("move", side, fresh[seen_at(way)])
        return head + (tuple((lead, anew(branch, way + (number,))) for number, (lead, branch) in enumerate(place[-1])),)
    return anew(game, ()), {new: key[0] for key, new in fresh.items()}


def is_let_by_table(game):
    rows = slow_table(game)
    counts = [len([row for row in rows if row[0] == side]) for side in (1, 2)]
    words = [sum(len(row[2]) for row in rows if row[0] == side) for side in (1, 2)]
    return max(counts) <= 8 and max(words) <= 24


class Keener(unittest.TestCase):
    def check_keener(self, game, side, name):
        told = keens.keener(game, side, name)
        self.assertEqual([type(part) for part in told], [tuple, dict])
        self.assertIs(type(told), tuple)
        self.assertEqual(told, slow_keener(game, side, name))
        self.assertIs(is_game(told[0]), True)
        rows = slow_rows(told[0], side)
        self.assertEqual([row[1] for row in rows], ["s" + str(number + 1) for number in range(len(rows))])
        self.assertEqual(list(told[1]), [row[1] for row in rows])
        self.assertEqual(set(told[1].values()), {row[1] for row in slow_rows(game, side)})
        self.assertEqual(slow_rows(told[0], 3 - side), slow_rows(game, 3 - side))
        words = words_of(game, side)
        for row in rows:
            self.assertEqual(row[2], words[told[1][row[1]]])
        return told

    def test_written_out(self):
        self.assertEqual(self.check_keener(BLIND, 1, "coin"), (evenly(
            "coin",
            move(1, "s1", up=move(2, "z", x=end(3), y=end(-1)), down=end(0)),
            move(1, "s2", up=move(2, "z", x=end(-2), y=end(1)), down=end(0)),
        ), {"s1": "k", "s2": "k"}))
        self.assertEqual(self.check_keener(BLIND, 2, "coin"), (evenly(
            "coin",
            move(1, "k", up=move(2, "s1", x=end(3), y=end(-1)), down=end(0)),
            move(1, "k", up=move(2, "s2", x=end(-2), y=end(1)), down=end(0)),
        ), {"s1": "z", "s2": "z"}))
        self.assertEqual(self.check_keener(POKER, 1, "card")[1], {"s1": "high", "s2": "low"})
        self.assertEqual(self.check_keener(POKER, 2, "card")[1], {"s1": "bet", "s2": "bet"})

    def test_a_name_that_no_deal_has(self):
        for name in ["die", "k", "", "s1", "coin2"]:
            told = self.check_keener(BLIND, 1, name)
            self.assertEqual(told[1], {"s1": "k"})
            self.assertEqual(told[0], evenly(
                "coin",
                move(1, "s1", up=move(2, "z", x=end(3), y=end(-1)), down=end(0)),
                move(1, "s1", up=move(2, "z", x=end(-2), y=end(1)), down=end(0)),
            ))
        self.assertEqual(self.check_keener(TWICE, 1, "x")[1], {"s1": "first", "s2": "second", "s3": "third"})

    def test_a_side_without_names(self):
        for game in [LEAF, CHANCE, LONE]:
            self.assertEqual(self.check_keener(game, 2, "coin"), (game, {}))
        self.assertEqual(self.check_keener(LONE_TWO, 1, "coin"), (LONE_TWO, {}))

    def test_names_in_the_order_of_first_places(self):
        # As new names came they go on, whatever the old ones were called.
        game = evenly("d", move(1, "s2", a=end(1)), move(1, "s1", a=move(1, "s9", b=end(0))), move(1, "s2", a=end(3)))
        told = self.check_keener(game, 1, "d")
        self.assertEqual(told[1], {"s1": "s2", "s2": "s1", "s3": "s9", "s4": "s2"})
        told = self.check_keener(game, 1, "e")
        self.assertEqual(told[1], {"s1": "s2", "s2": "s1", "s3": "s9"})

    def test_deals_between_and_behind_the_sides_moves(self):
        between = move(1, "k", a=evenly("d", move(1, "l", x=end(1), y=end(2)), move(1, "l", x=end(3), y=end(0))), b=end(0))
        self.assertEqual(self.check_keener(between, 1, "d")[1], {"s1": "k", "s2": "l", "s3": "l"})
        behind = move(1, "k", a=evenly("d", end(1), end(2)), b=move(2, "z", x=evenly("d", end(3), end(4))))
        self.assertEqual(self.check_keener(behind, 1, "d")[1], {"s1": "k"})
        # What was dealt ahead of the first move is known at the later one too, and from the record.
        ahead = evenly("d", *[move(1, "k", a=move(2, "z", p=move(1, "l", x=end(n)), q=end(0)), b=end(n)) for n in range(2)])
        self.assertEqual(self.check_keener(ahead, 1, "d")[1], {"s1": "k", "s2": "l", "s3": "k", "s4": "l"})

    def test_several_deals_of_one_name(self):
        inner = [evenly("d", move(1, "k", a=end(n)), move(1, "k", a=end(-n))) for n in range(2)]
        self.assertEqual(self.check_keener(evenly("d", *inner), 1, "d")[1], {"s" + str(n): "k" for n in range(1, 5)})
        self.assertEqual(self.check_keener(evenly("e", *inner), 1, "d")[1], {"s1": "k", "s2": "k"})
        self.assertEqual(self.check_keener(evenly("e", *inner), 1, "e")[1], {"s1": "k", "s2": "k"})
        # One deal of the name more on the way: another list, though the number is the same.
        uneven = evenly("e", evenly("d", move(1, "k", a=end(1)), end(0)), move(1, "k", a=end(2)))
        self.assertEqual(self.check_keener(uneven, 1, "d")[1], {"s1": "k", "s2": "k"})
        alone = evenly("e", deal("d", (1, move(1, "k", a=end(1)))), move(1, "k", a=end(2)))
        self.assertEqual(self.check_keener(alone, 1, "d")[1], {"s1": "k", "s2": "k"})

    def test_the_order_in_which_they_came(self):
        # In one branch the deal comes ahead of the move, in the other behind it.
        first = evenly("d", move(1, "k", a=move(1, "l", x=end(1))), move(1, "k", a=move(1, "l", x=end(2))))
        second = move(1, "k", a=evenly("d", move(1, "l", x=end(3)), move(1, "l", x=end(4))))
        told = self.check_keener(evenly("e", first, second), 1, "d")
        self.assertEqual(told[1], {"s1": "k", "s2": "l", "s3": "k", "s4": "l", "s5": "k", "s6": "l", "s7": "l"})

    def test_the_other_sides_moves_are_not_seen(self):
        game = move(2, "z", x=evenly("d", move(1, "k", a=end(1)), move(1, "k", a=end(2))),
                    y=evenly("d", move(1, "k", a=end(3)), move(1, "k", a=end(4))))
        self.assertEqual(self.check_keener(game, 1, "d")[1], {"s1": "k", "s2": "k"})

    def test_names_that_both_sides_have(self):
        game = evenly("d", move(2, "s1", a=move(1, "s2", b=end(1))), move(2, "s1", a=move(1, "s2", b=end(2))))
        told = self.check_keener(game, 1, "d")
        self.assertEqual([row[:2] for row in slow_table(told[0])], [(2, "s1"), (1, "s1"), (1, "s2")])

    def test_eight_names_and_nine(self):
        for count, words in [(8, 1), (8, 3), (4, 6)]:
            shown = evenly("d", *[move(2, "k", **{"abcdef"[at]: end(at) for at in range(words)}) for step in range(count)])
            for side, game in [(2, shown), (1, turned(shown))]:
                self.assertEqual(len(self.check_keener(game, side, "d")[1]), count)
        for count, words in [(9, 1), (9, 2), (5, 5), (7, 4), (12, 1)]:
            shown = evenly("d", *[move(2, "k", **{"abcdef"[at]: end(at) for at in range(words)}) for step in range(count)])
            look(shown)
            for side, game in [(2, shown), (1, turned(shown))]:
                with self.assertRaises(TooGreat):
                    keens.keener(game, side, "d")
                self.assertEqual(self.check_keener(game, side, "e")[1], {"s1": "k"})
                self.check_keener(game, 3 - side, "d")

    def test_the_shape_is_asked_in_all(self):
        # Somewhat beyond what the looker lets by; said to be refused here as there.
        wide = deal("d", *[(Fraction(1, 64), end(step)) for step in range(64)])
        deep = end(1)
        for step in range(13):
            deep = deal("d", (1, deep))
        for game in [wide, deep]:
            with self.assertRaises(TooGreat):
                look(game)
            with self.assertRaises(TooGreat):
                keens.keener(game, 1, "d")

    def test_fractions_are_put_aside(self):
        far = Fraction(1, 997)
        first = deal("e", (far, LONE), (1 - far, end(2)))
        game = deal("d", (far, first), (1 - far, deal("d", (far, LONE), (1 - far, end(10 ** 9)))))
        told = folded(game)
        with self.assertRaises(TooGreat):
            look(told)
        self.check_keener(told, 1, "d")
        self.check_keener(end(Fraction(10 ** 50, 7 ** 20)), 1, "d")

    def test_some_games(self):
        source = random.Random(70)
        found = 0
        for game in WRITTEN + sound_games(source, 300, 6):
            for side in (1, 2):
                for name in ["d", "n0", "coin"]:
                    wanted = slow_keener(game, side, name)
                    if is_let_by_table(wanted[0]):
                        self.check_keener(game, side, name)
                        look(wanted[0])
                        found += len(wanted[1]) > len(slow_rows(game, side))
                    else:
                        with self.assertRaises(TooGreat):
                            keens.keener(game, side, name)
        self.assertGreater(found, 50)

    def test_handed_in_and_told(self):
        game = copy.deepcopy(BLIND)
        told = keens.keener(game, 1, "coin")
        wanted = copy.deepcopy(told)
        self.assertEqual(game, BLIND)
        told[1].clear()
        self.assertEqual(keens.keener(game, 1, "coin"), wanted)


class Pulled(unittest.TestCase):
    def check_pulled(self, game, side, name, plan):
        keen, new = keens.keener(game, side, name)
        told = keens.pulled(plan, new)
        self.assertEqual(told, {each: plan[old] for each, old in new.items()})
        self.assertIs(is_plan(keen, side, told), True)
        for other in pure_plans(game, 3 - side):
            if side == 1:
                self.assertEqual(slow_brings(keen, told, other), slow_brings(game, plan, other))
            else:
                self.assertEqual(slow_brings(keen, other, told), slow_brings(game, other, plan))

    def test_written_out(self):
        plan = {"k": (THIRD, (2, 3))}
        new = keens.keener(BLIND, 1, "coin")[1]
        self.assertEqual(keens.pulled(plan, new), {"s1": (THIRD, (2, 3)), "s2": (THIRD, (2, 3))})
        self.assertEqual(keens.pulled({}, {}), {})
        self.check_pulled(BLIND, 1, "coin", plan)
        self.check_pulled(BLIND, 2, "coin", {"z": (HALF, HALF)})

    def test_some_games(self):
        source = random.Random(71)
        done = 0
        for game in sound_games(source, 250, 5, lambda game: len(pure_plans(game, 1)) < 40 > len(pure_plans(game, 2))):
            for side in (1, 2):
                for name in ["d", "n0"]:
                    if is_let_by_table(slow_keener(game, side, name)[0]):
                        self.check_pulled(game, side, name, a_plan(source, game, side))
                        done += 1
        self.assertGreater(done, 400)

    def test_no_plan(self):
        new = keens.keener(POKER, 1, "card")[1]
        good = {"high": (HALF, HALF), "low": (ONE, NOUGHT)}
        self.assertEqual(keens.pulled(good, new), {"s1": (HALF, HALF), "s2": (ONE, NOUGHT)})
        wrong = STRANGE + [
            {}, {"high": (HALF, HALF)}, {**good, "bet": (ONE,)}, {**good, "low": [ONE, NOUGHT]}, {**good, "low": ()},
            {**good, "low": (HALF, THIRD)}, {**good, "low": ((3, 2), (-1, 2))}, {**good, "low": None},
            {**good, "low": ((2, 4), HALF)}, {"s1": (HALF, HALF), "s2": (ONE, NOUGHT)}, {**good, 3: (ONE,)}, [good],
        ]
        for thing in wrong:
            with self.subTest(thing=thing):
                with self.assertRaises(NoPlan):
                    keens.pulled(thing, new)

    def test_handed_in_and_told(self):
        new = keens.keener(BLIND, 1, "coin")[1]
        plan = {"k": (THIRD, (2, 3))}
        told = keens.pulled(plan, new)
        self.assertEqual((plan, new), ({"k": (THIRD, (2, 3))}, {"s1": "k", "s2": "k"}))
        told.clear()
        self.assertEqual(keens.pulled(plan, new), {"s1": (THIRD, (2, 3)), "s2": (THIRD, (2, 3))})


class Gain(unittest.TestCase):
    def check_gain(self, game, side, name):
        told = keens.gain(game, side, name)
        keen = keens.keener(game, side, name)[0]
        worths = []
        for each in [game, keen]:
            worth, one, two = balance(each)
            self.assertEqual(slow_held(each, 1, one), slow_held(each, 2, two))
            worths.append(slow_held(each, 1, one))
        wanted = worths[1] - worths[0] if side == 1 else worths[0] - worths[1]
        self.assertEqual(told, pair(wanted))
        self.assertGreaterEqual(wanted, 0)
        return told

    def test_written_out(self):
        # Side 1 knows the card already; side 2 does not, and with it pays nothing more than the cards do.
        self.assertEqual(self.check_gain(POKER, 1, "card"), NOUGHT)
        self.assertEqual(self.check_gain(POKER, 2, "card"), THIRD)
        self.assertEqual(self.check_gain(PENNIES, 1, "coin"), NOUGHT)
        guess = evenly("coin", move(1, "say", h=end(1), t=end(0)), move(1, "say", h=end(0), t=end(1)))
        self.assertEqual(self.check_gain(guess, 1, "coin"), HALF)
        self.assertEqual(self.check_gain(turned(guess), 2, "coin"), HALF)
        self.assertEqual(self.check_gain(guess, 2, "coin"), NOUGHT)
        self.assertEqual(self.check_gain(guess, 1, "die"), NOUGHT)
        self.assertEqual(self.check_gain(LEAF, 1, "die"), NOUGHT)
        self.assertEqual(self.check_gain(CHANCE, 2, "die"), NOUGHT)

    def test_some_games(self):
        source = random.Random(72)
        found = 0
        done = 0
        games = sound_games(source, 250, 5, is_small)
        for step in range(40):
            stakes = [source.randint(-3, 3) for stake in range(8)]
            games.append(evenly("d", at_once([stakes[:2], stakes[2:4]]), at_once([stakes[4:6], stakes[6:]])))
        for game in games:
            for side in (1, 2):
                keen = slow_keener(game, side, "d")[0]
                if is_small(keen):
                    found += self.check_gain(game, side, "d") != NOUGHT
                    done += 1
                else:
                    with self.assertRaises(TooGreat):
                        keens.gain(game, side, "d")
        self.assertGreater(found, 20)
        self.assertGreater(done, 200)

    def test_too_great(self):
        source = random.Random(73)
        for first, second in [([6, 2], []), ([], [6, 2]), ([3, 3], [3, 3])]:
            game = names(source, first, second)
            self.assertGreaterEqual(max(both_sums(game)), 8)
            for side in (1, 2):
                with self.assertRaises(TooGreat):
                    keens.gain(game, side, "none")
        # Small itself, but not made keener: by either sum, and beyond the looker's bounds.
        for count, words in [(2, 4), (4, 2), (9, 1)]:
            game = evenly("d", *[move(1, "k", **{"abcdef"[at]: end(at) for at in range(words)}) for step in range(count)])
            for side, each in [(1, game), (2, turned(game))]:
                self.assertTrue(is_small(each))
                with self.assertRaises(TooGreat):
                    keens.gain(each, side, "d")
                self.assertEqual(keens.gain(each, 3 - side, "d"), NOUGHT)

    def test_handed_in_stays(self):
        game = copy.deepcopy(POKER)
        told = keens.gain(game, 2, "card")
        self.assertEqual(game, POKER)
        self.assertEqual(keens.gain(game, 2, "card"), told)


if __name__ == "__main__":
    unittest.main()
