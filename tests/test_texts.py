"""Promise [9], with [5] and [6] within texts, and [2] where it speaks of texts."""

import random
import unittest

from hushduel import texts
from hushduel.errors import NoText
from hushduel.games import is_game
from tests.helpers import CHANCE, HALF, LEAF, LONE, PENNIES, POKER, STRANGE, TWICE, WRITTEN, sound_games

MOST = 10 ** 30 - 1
NINE = "abcdefghi"
# Texts with the games that they tell.
TOLD = {
    "end 3/2": ("end", (3, 2)),
    "end 0": LEAF,
    "end -7": ("end", (-7, 1)),
    "deal coin(1/3 end 1, 2/3 end -1/2)": ("deal", "coin", (((1, 3), ("end", (1, 1))), ((2, 3), ("end", (-1, 2))))),
    "deal d(1 end 0)": ("deal", "d", (((1, 1), LEAF),)),
    "move 1 king(raise end 0, fold end -1)": ("move", 1, "king", (("raise", LEAF), ("fold", ("end", (-1, 1))))),
    "move 2 12345678(abcdefgh end 0)": ("move", 2, "12345678", (("abcdefgh", LEAF),)),
    "move 2 end(deal deal move(1/2 move 1 1(1 end 1), 1/2 end 1))": (
        "move", 2, "end", (
            ("deal", ("deal", "move", ((HALF, ("move", 1, "1", (("1", ("end", (1, 1))),))), (HALF, ("end", (1, 1)))))),
        ),
    ),
    # Sound or not: shares need not come to 1, nor seen names have the same words.
    "deal d(-1/2 end 0, 0 end 0)": ("deal", "d", (((-1, 2), LEAF), ((0, 1), LEAF))),
    "move 1 a(b move 1 a(c end 0))": ("move", 1, "a", (("b", ("move", 1, "a", (("c", LEAF),))),)),
}
# Just beside the form.
BESIDE = [
    "", " ", "end", "end ", "end  1", "End 1", "END 1", "end1", "end\t1", "end 1 ", " end 1", "end 1,", "end 1)",
    "end 1(", "end (1)", "end 1, ", "end 2/4", "end 3/1", "end 0/1", "end -0", "end 01", "end +1", "end 1.5",
    "end 1/0", "end 1/-2", "end x", "end -", "end 1end 1", "end 1 end 1", "ends 1", "an end 1", "end: 1", "end 1\n",
    "stop 1", "3/2", "a", "end 1/", "end /2", "end 1 /2", "deal", "deal ", "deal d", "deal d(", "deal d()", "deal d)",
    "deal d(1)", "deal d(1 )", "deal d(end 1)", "deal d(1 end 1", "deal d(1 end 1))", "deal d(1 end 1) ",
    "deal d(1 end 1),", "deal d(1 end 1)end 1", "deal d(1 end 1, )", "deal d(, 1 end 1)", "deal d(1 end 1,1 end 1)",
    "deal d(1 end 1,  1 end 1)", "deal d(1 end 1 , 1 end 1)", "deal d(1 end 1; 1 end 1)", "deal d(1 end 1 1 end 1)",
    "deal d(1  end 1)", "deal d( 1 end 1)", "deal d(1 end 1 )", "deal d (1 end 1)", "deal  d(1 end 1)",
    "deal (1 end 1)", "deal d((1 end 1))", "deal d[1 end 1]", "deal d(2/4 end 1, 1/2 end 1)", "deal d(2/2 end 1)",
    "deal d(1/1 end 1)", "deal d(01 end 1)", "deal d(a end 1)", "deal D(1 end 1)", "deal d_(1 end 1)",
    "deal d-(1 end 1)", "deal a b(1 end 1)", "deal 1 d(1 end 1)", "Deal d(1 end 1)", "deald(1 end 1)",
    "dealt d(1 end 1)", "deal d(1 end 1, 1 end)", "deal d(1, end 1)", "deal " + NINE + "(1 end 1)", "deal d(1 end 1",
    "deal d(1 deal e(1 end 1)", "deal d(1 end 1)))", "move", "move ", "move 1", "move 1 ", "move 1 k", "move 1 k(",
    "move 1 k()", "move 1 k(a)", "move 1 k(a )", "move 1 k(end 1)", "move 3 k(a end 1)", "move 0 k(a end 1)",
    "move 12 k(a end 1)", "move -1 k(a end 1)", "move 01 k(a end 1)", "move 1/1 k(a end 1)", "move one k(a end 1)",
    "move k(a end 1)", "move  k(a end 1)", "move 1  k(a end 1)", "move  1 k(a end 1)", "move 1k(a end 1)",
    "move 1 (a end 1)", "move 1 k (a end 1)", "move 1 K(a end 1)", "move 1 k(A end 1)", "move 1 k(a end 1, a end 2)",
    "move 1 k(a end 1, b end 1, a end 1)", "move 1 k( end 1)", "move 1 k(a  end 1)", "move 1 k( a end 1)",
    "move 1 k(a end 1,b end 1)", "move 1 k(a end 1, b)", "move 1 k(a end 1, b end 1, )",
    "move 1 k(a end 1,  b end 1)", "move 1 k(a: end 1)", "move 1 k(a-b end 1)", "move 1 k(a, b end 1)",
    "move 1 " + NINE + "(a end 1)", "move 1 k(" + NINE + " end 1)", "move 1 k(a end 1) b", "move 1 k(a end 1)\n",
    "move 1 k(a end 1))", "move 1 k(a end 1", "move 1 k(a move 1 k(a end 1)", "move 1, k(a end 1)",
    "Move 1 k(a end 1)", "move 1 k(1/2 end 1)", "('end', (3, 2))", "move 1 k l(a end 1)", "(end 1)", "end 1\\", "#",
    "~",
]


def words_text(words):
    return "move 1 k(" + ", ".join([word + " end 0" for word in words]) + ")"


def deal_text(count):
    return "deal d(" + ", ".join(["1/64 end 0"] * count) + ")"


def within(text):
    """The text as a branch of others, deep in the first and in the last place."""
    return [
        "deal d(1/2 " + text + ", 1/2 end 0)",
        "deal d(1/2 end 0, 1/2 " + text + ")",
        "move 2 k(a " + text + ", b end 0)",
        "move 2 k(a deal e(1/3 end 5, 1/3 " + text + ", 1/3 end 1), b end 0)",
    ]


class Shown(unittest.TestCase):
    def test_written_out(self):
        for text, game in TOLD.items():
            with self.subTest(text):
                self.assertEqual(texts.shown(game), text)
                self.assertIs(type(texts.shown(game)), str)

    def test_the_documents_own(self):
        ends = (("end", (3, 2)), ("end", (0, 1)))
        coin = ("deal", "coin", (((1, 3), ends[0]), ((2, 3), ends[1])))
        king = ("move", 1, "king", (("raise", ends[0]), ("fold", ends[1])))
        self.assertEqual(texts.shown(coin), "deal coin(1/3 end 3/2, 2/3 end 0)")
        self.assertEqual(texts.shown(king), "move 1 king(raise end 3/2, fold end 0)")

    def test_numbers_longer_than_are_read(self):
        self.assertEqual(texts.shown(("end", (10 ** 40, 3))), "end 1" + 40 * "0" + "/3")


class Read(unittest.TestCase):
    def check_no_text(self, thing):
        with self.assertRaises(NoText, msg=repr(thing)):
            texts.read(thing)

    def test_written_out(self):
        for text, game in TOLD.items():
            with self.subTest(text):
                told = texts.read(text)
                self.assertEqual(told, game)
                self.assertIs(is_game(told), True)

    def test_shown_and_read_again(self):
        for game in WRITTEN + sound_games(random.Random(9), 150, 5):
            text = texts.shown(game)
            told = texts.read(text)
            self.assertEqual(told, game)
            self.assertEqual(texts.shown(told), text)

    def test_each_form_within_each(self):
        for text in TOLD:
            for longer in within(text):
                told = texts.read(longer)
                self.assertIs(is_game(told), True)
                self.assertEqual(texts.shown(told), longer)

    def test_beside_the_form(self):
        for text in BESIDE:
            with self.subTest(text):
                self.check_no_text(text)

    def test_beside_the_form_within_others(self):
        for text in BESIDE:
            for longer in within(text):
                with self.subTest(longer):
                    self.check_no_text(longer)

    def test_how_many_words(self):
        for count in range(1, 7):
            self.assertEqual(len(texts.read(words_text("abcdef"[:count]))[3]), count)
        for words in ["", "abcdefg", "abcdefgh", "aa", "abcdea"]:
            self.check_no_text(words_text(words))

    def test_how_many_branches(self):
        for count in [1, 2, 6, 7, 63, 64]:
            self.assertEqual(texts.read(deal_text(count)), ("deal", "d", tuple([((1, 64), LEAF)] * count)))
        for count in [0, 65, 66, 100]:
            self.check_no_text(deal_text(count))

    def test_how_long_names_and_words_are(self):
        for length in range(11):
            name = (NINE + "jk")[:length]
            for text in ["deal " + name + "(1 end 0)", "move 1 " + name + "(a end 0)", "move 2 k(" + name + " end 0)"]:
                if 1 <= length <= 8:
                    self.assertEqual(texts.shown(texts.read(text)), text)
                else:
                    self.check_no_text(text)

    def test_how_long_numbers_are(self):
        for number in [str(MOST), "-" + str(MOST), "1/" + str(MOST), "-" + str(MOST) + "/" + str(MOST - 1)]:
            for text in ["end " + number, "deal d(" + number + " end 0)"]:
                self.assertEqual(texts.shown(texts.read(text)), text)
        for number in [str(MOST + 1), "-" + str(MOST + 1), "1/" + str(MOST + 1), 3000 * "7"]:
            self.check_no_text("end " + number)
            self.check_no_text("deal d(" + number + " end 0)")

    def test_each_sign_put_in_left_out_or_changed(self):
        for text in ["deal coin(1/3 end 1, 2/3 end -1/2)", "move 1 k(ab end 0, c move 2 k(d end 3))"]:
            for place in range(len(text) + 1):
                beside = [text[:place] + text[place + 1:]]
                for sign in map(chr, range(32, 127)):
                    beside.append(text[:place] + sign + text[place:])
                    beside.append(text[:place] + sign + text[place + 1:])
                for other in beside:
                    try:
                        told = texts.read(other)
                    except NoText:
                        continue
                    self.assertIs(is_game(told), True)
                    self.assertEqual(texts.shown(told), other)

    def test_each_beginning_and_each_rest(self):
        for game in [CHANCE, LONE, PENNIES, POKER, TWICE]:
            text = texts.shown(game)
            for place in range(1, len(text)):
                self.check_no_text(text[:place])
                try:
                    told = texts.read(text[place:])
                except NoText:
                    continue
                self.fail(told)

    def test_something_behind_the_game(self):
        for text in TOLD:
            for more in [" ", ")", "(", ",", ", ", " end 0", ", end 0", "end 0", "()", "~"]:
                self.check_no_text(text + more)
                self.check_no_text(more + text)

    def test_deep_ones(self):
        text = "move 1 a(b " * 20 + "end 1" + ")" * 20
        self.assertEqual(texts.shown(texts.read(text)), text)
        for spoiled in ["move 1 a(b " * 300, "deal d(1 " * 400, text + ")", text[:-1], "(" * 4000, ")" * 4000]:
            self.check_no_text(spoiled)

    def test_what_is_no_text(self):
        for thing in STRANGE + [LEAF, ["end 1"], ("end 1",), {"end 1": 1}, b"end 1", LONE, 3]:
            self.check_no_text(thing)

    def test_asked_again_and_after_a_refusal(self):
        text = texts.shown(POKER)
        first = texts.read(text)
        self.check_no_text(text + " ")
        self.assertEqual(texts.read(text), first)
        self.assertEqual(first, POKER)


if __name__ == "__main__":
    unittest.main()
