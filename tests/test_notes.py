"""Promise [33], and [2] of it."""

import copy
import random
import unittest
from fractions import Fraction

from hushduel import notes
from hushduel.errors import NoPlan, NoText
from tests.helpers import (
    CHANCE, HALF, LEAF, LONE, ONE, PENNIES, POKER, STRANGE, TWICE, WRITTEN, a_plan, end, evenly, move, pair, slow_rows,
    sound_games,
)

NOUGHT = (0, 1)
THIRD = (1, 3)
CARDS = evenly("card", move(1, "king", bet=end(1), fold=end(0)), move(1, "queen", bet=end(-1), fold=end(0)))
PLAN = {"king": (HALF, HALF), "queen": (NOUGHT, ONE)}


def slow_shown(game, side, plan):
    """Row by row, by the table."""
    rows = []
    for row in slow_rows(game, side):
        rows.append(row[1])
        for share in plan[row[1]]:
            rows[-1] += " " + str(Fraction(*share))
    return "; ".join(rows)


class Shown(unittest.TestCase):
    def test_written_out(self):
        self.assertEqual(notes.show_plan(CARDS, 1, PLAN), "king 1/2 1/2; queen 0 1")
        self.assertEqual(notes.show_plan(PENNIES, 2, {"two": (THIRD, (2, 3))}), "two 1/3 2/3")
        self.assertEqual(notes.show_plan(LONE, 1, {"only": (NOUGHT, ONE, NOUGHT)}), "only 0 1 0")

    def test_a_plan_without_names(self):
        for game in [LEAF, CHANCE]:
            for side in (1, 2):
                self.assertEqual(notes.show_plan(game, side, {}), "")
        self.assertEqual(notes.show_plan(CARDS, 2, {}), "")

    def test_in_the_tables_order(self):
        for plan in [{"queen": (NOUGHT, ONE), "king": (HALF, HALF)}, {"king": (HALF, HALF), "queen": (NOUGHT, ONE)}]:
            self.assertEqual(notes.show_plan(CARDS, 1, plan), "king 1/2 1/2; queen 0 1")
        plan = {"third": (HALF, HALF), "first": (ONE, NOUGHT), "second": (NOUGHT, ONE)}
        self.assertEqual(notes.show_plan(TWICE, 1, plan), "first 1 0; second 0 1; third 1/2 1/2")

    def test_great_numbers(self):
        part = Fraction(10 ** 40, 10 ** 41 + 1)
        text = notes.show_plan(PENNIES, 1, {"one": (pair(part), pair(1 - part))})
        self.assertEqual(text, f"one {part} {1 - part}")
        # Shown they are with all their figures, but with more than thirty they are not read again.
        with self.assertRaises(NoText):
            notes.read_plan(PENNIES, 1, text)

    def test_no_plan(self):
        wrong = STRANGE + [
            {}, {"king": (HALF, HALF)}, {**PLAN, "x": (ONE,)}, {**PLAN, "queen": (ONE,)}, {**PLAN, "queen": [NOUGHT, ONE]},
            {**PLAN, "queen": (HALF, THIRD)}, {**PLAN, "queen": ((3, 2), (-1, 2))}, "king 1/2 1/2; queen 0 1",
        ]
        for thing in wrong:
            with self.subTest(thing=thing):
                with self.assertRaises(NoPlan):
                    notes.show_plan(CARDS, 1, thing)
        with self.assertRaises(NoPlan):
            notes.show_plan(CARDS, 2, PLAN)

    def test_some_games(self):
        source = random.Random(90)
        for game in WRITTEN + sound_games(source, 150, 6):
            for side in (1, 2):
                plan = a_plan(source, game, side)
                handed = copy.deepcopy(plan)
                text = notes.show_plan(game, side, handed)
                self.assertEqual(text, slow_shown(game, side, plan))
                self.assertEqual(handed, plan)
                self.assertEqual(notes.show_plan(game, side, dict(sorted(plan.items()))), text)
                self.assertEqual(notes.read_plan(game, side, text), plan)
                rows = text.split("; ")
                source.shuffle(rows)
                self.assertEqual(notes.read_plan(game, side, "; ".join(rows)), plan)


class Read(unittest.TestCase):
    def test_written_out(self):
        for text in ["king 1/2 1/2; queen 0 1", "queen 0 1; king 1/2 1/2"]:
            self.assertEqual(notes.read_plan(CARDS, 1, text), PLAN)
        self.assertEqual(notes.read_plan(LONE, 1, "only 1/3 1/3 1/3"), {"only": (THIRD, THIRD, THIRD)})
        self.assertEqual(notes.read_plan(TWICE, 2, "reply 0 1"), {"reply": (NOUGHT, ONE)})

    def test_a_plan_without_names(self):
        for game, side in [(LEAF, 1), (LEAF, 2), (CHANCE, 1), (CARDS, 2), (LONE, 2)]:
            self.assertEqual(notes.read_plan(game, side, ""), {})
        for game, side in [(CARDS, 1), (LONE, 1), (PENNIES, 2)]:
            with self.assertRaises(NoPlan):
                notes.read_plan(game, side, "")

    def test_beside_the_form(self):
        good = "king 1/2 1/2; queen 0 1"
        self.assertEqual(notes.read_plan(CARDS, 1, good), PLAN)
        wrong = [
            " ", "  ", ";", "; ", " ; ", ";; ", " " + good, good + " ", good + ";", good + "; ", "; " + good, ";" + good,
            "king 1/2 1/2;queen 0 1", "king 1/2 1/2 ;queen 0 1", "king 1/2 1/2 ; queen 0 1", "king 1/2 1/2;  queen 0 1",
            "king 1/2 1/2; ; queen 0 1", "king 1/2 1/2;; queen 0 1", "king  1/2 1/2; queen 0 1", "king 1/2  1/2; queen 0 1",
            "king 1/2 1/2, queen 0 1", "king 1/2 1/2 queen 0 1", "king: 1/2 1/2; queen 0 1", "king 1/2,1/2; queen 0 1",
            "king 1/2 1/2\n; queen 0 1", "king\t1/2 1/2; queen 0 1", "king 1/2 1/2;\nqueen 0 1", good + "\n",
            "king 1/2 1/2; king 1/2 1/2", "king 1/2 1/2; queen 0 1; king 1/2 1/2", "king 1/2 1/2; queen 0 1; queen 1 0",
            "king; queen 0 1", "king 1/2 1/2; queen", "king ; queen 0 1", "king", "queen ", "1/2 1/2; 0 1",
            "King 1/2 1/2; queen 0 1", "king 1/2 1/2; Queen 0 1", "thekingof 1 0; king 1/2 1/2; queen 0 1", "k-g 1 0",
            "king 2/4 1/2; queen 0 1", "king 1/2 1/2; queen 0 1/1", "king 1/2 1/2; queen 00 1", "king 1/2 1/2; queen -0 1",
            "king 1/2 1/2; queen 0 +1", "king 0.5 0.5; queen 0 1", "king 1/2 1/2; queen 0 1/0", "king 1/-2 1/2; queen 0 1",
            "king 1/2 1/2; queen 0 one", "king / 1/2; queen 0 1", "king 1/2 1/2; queen 0 1/",
            "king 1/2 1/2; queen 0 " + "1" * 31, "king 1/2 1/2; queen 0 1/" + "1" * 31,
        ]
        for text in wrong:
            with self.subTest(text=text):
                with self.assertRaises(NoText):
                    notes.read_plan(CARDS, 1, text)

    def test_thirty_figures_are_read(self):
        part = Fraction(1, 10 ** 29)
        text = f"one {part} {1 - part}"
        self.assertEqual(notes.read_plan(PENNIES, 1, text), {"one": (pair(part), pair(1 - part))})
        with self.assertRaises(NoPlan):
            notes.read_plan(PENNIES, 1, "one 0 " + "1" * 30)

    def test_no_text(self):
        for thing in STRANGE + [PLAN, {}]:
            with self.subTest(thing=thing):
                with self.assertRaises(NoText):
                    notes.read_plan(CARDS, 1, thing)

    def test_no_plan(self):
        wrong = [
            "king 1/2 1/2", "queen 0 1", "king 1/2 1/2; queen 0 1; jack 1 0", "king 1/2 1/2; jack 0 1",
            "king 1/2 1/2; queen 1", "king 1/2 1/2; queen 0 1 0", "king 1/2 1/2; queen 0 1/2", "king 1/2 1/2; queen -1 2",
            "king 1 1; queen 0 1", "king 1; queen 1", "king 0 0; queen 0 1", "card 1/2 1/2", "a 1", "0 1",
        ]
        for text in wrong:
            with self.subTest(text=text):
                with self.assertRaises(NoPlan):
                    notes.read_plan(CARDS, 1, text)
        for game, side, text in [(CARDS, 2, "king 1/2 1/2; queen 0 1"), (PENNIES, 1, "two 1 0"), (LEAF, 1, "one 1")]:
            with self.assertRaises(NoPlan):
                notes.read_plan(game, side, text)

    def test_no_text_ahead_of_no_plan(self):
        for text in ["jack 1 0; king 1/2  1/2", "jack 2/4", "jack 1; jack 1", "jack", "king 3 4; queen 1/1"]:
            with self.assertRaises(NoText):
                notes.read_plan(CARDS, 1, text)

    def test_told(self):
        text = "bet 2/3 1/3"
        told = notes.read_plan(POKER, 2, text)
        told.clear()
        self.assertEqual(notes.read_plan(POKER, 2, text), {"bet": ((2, 3), THIRD)})


if __name__ == "__main__":
    unittest.main()
