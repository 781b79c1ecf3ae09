"""Promise [34] and the desk's rows in the interface, and [2] of them."""

import random
import unittest
from fractions import Fraction

from hushduel.balances import balance
from hushduel.desk import Desk
from hushduel.errors import Forgets, NoName, NoPlace, NoPlan, NoRow, NoShares, NoText, NoWord, TooGreat, Unlike
from hushduel.folds import folded
from hushduel.games import turned
from hushduel.keens import gain, keener
from hushduel.notes import read_plan, show_plan
from hushduel.texts import read, shown
from hushduel.trims import trimmed
from tests.helpers import (
    FOUR_PENNIES, PENNIES, POKER, STRANGE, TWICE, WRITTEN, a_plan, deal, end, evenly, is_small, move, names, slow_held,
    slow_rows, sound_games,
)

COINS = "move 1 one(heads move 2 two(heads end 1, tails end -1), tails move 2 two(heads end -1, tails end 1))"
CARDS = (
    "deal card(1/2 move 1 high(bet move 2 bet(call end 2, fold end 1), stay end 1),"
    " 1/2 move 1 low(bet move 2 bet(call end -2, fold end 1), stay end -1))"
)
FAR = "deal d(1/997 deal e(1/991 end 1, 990/991 move 1 k(a end 2, b end 3)), 996/997 move 1 k(a end 4, b end 0))"
# Side 1 sees four names of two words: let by, but not small.
GREAT = shown(names(random.Random(1), [2, 2, 2, 2], [2]))


def wide():
    """A place more than the looker lets by."""
    return deal("d", *[(Fraction(1, 64), end(0)) for step in range(64)])


def text_of(value):
    return str(Fraction(*value))


class Rows(unittest.TestCase):
    def setUp(self):
        self.desk = Desk()
        self.assertEqual(self.desk.say("game coins " + COINS), "ok")
        self.assertEqual(self.desk.say("game cards " + CARDS), "ok")
        self.assertEqual(self.desk.say("game far " + FAR), "ok")
        self.assertEqual(self.desk.say("game great " + GREAT), "ok")
        self.texts = {"coins": COINS, "cards": CARDS, "far": FAR, "great": GREAT}

    def check_refused(self, refusal, *rows):
        for row in rows:
            with self.subTest(row=row):
                with self.assertRaises(refusal):
                    self.desk.say(row)
                self.check_standing()

    def check_standing(self):
        for name in ["coins", "cards", "far", "great", "a", "b", "new", "x"]:
            if name in self.texts:
                self.assertEqual(self.desk.say("show " + name), self.texts[name])
            else:
                with self.assertRaises(NoName):
                    self.desk.say("show " + name)

    def check_made(self, row, name, text):
        self.assertEqual(self.desk.say(row), "ok")
        self.texts[name] = text
        self.check_standing()

    def test_game(self):
        self.check_made("game a end 3/2", "a", "end 3/2")
        self.check_made("game a end -1", "a", "end -1")
        self.check_made("game coins deal d(1 end 0)", "coins", "deal d(1 end 0)")
        self.check_made("game 12345678 end 0", "12345678", "end 0")
        self.check_made("game game end 7", "game", "end 7")

    def test_game_refused(self):
        self.check_refused(NoRow, "game", "game a", "game coins", "gamea end 1", "Game a end 1", "games a end 1")
        self.check_refused(
            NoName, "game A end 1", "game  end 1", "game 123456789 end 1", "game a-b end 1", "game a( end 1",
        )
        self.check_refused(NoName, "game A ", "game  ", "game A x", "game  a end 1")
        self.check_refused(
            NoText, "game a ", "game a  ", "game a x", "game a  end 1", "game a end 1 ", "game a end  1",
            "game a end 2/4", "game a deal d(1 end 0", "game a deal d()", "game a move 3 k(a end 1)",
            "game a move 1 k(a end 1, a end 2)", "game a end " + "1" * 31, "game coins x",
        )
        self.check_refused(TooGreat, "game a end " + "1" * 13, "game a end 1/1000", "game a " + shown(wide()))
        self.check_refused(
            NoShares, "game a deal d(1/2 end 0)", "game a deal d(0 end 1, 1 end 0)", "game coins deal d(-1 end 0)",
        )
        unlike = evenly("d", move(1, "k", a=end(1)), move(1, "k", b=end(1)))
        forgets = move(1, "k", a=move(1, "l", x=end(1)), b=move(1, "l", x=end(1)))
        self.check_refused(Unlike, "game a " + shown(unlike))
        self.check_refused(Forgets, "game a " + shown(forgets))
        with self.assertRaises(Forgets) as caught:
            self.desk.say("game a " + shown(forgets))
        self.assertEqual((caught.exception.one, caught.exception.other), ((0,), (1,)))

    def test_fold(self):
        nested = "deal d(1/2 end 1, 1/2 deal e(1/3 end 1, 2/3 end 0))"
        self.check_made("game a " + nested, "a", nested)
        self.check_made("fold b a", "b", "deal d(2/3 end 1, 1/3 end 0)")
        self.check_made("fold a a", "a", "deal d(2/3 end 1, 1/3 end 0)")
        self.check_made("fold far far", "far", shown(folded(read(FAR))))
        self.check_made("fold great great", "great", GREAT)
        self.check_refused(NoRow, "fold", "fold b", "fold b a ", "fold b a a", "fold  b a", "fold b  a", "fold b a c d")
        self.check_refused(NoName, "fold B a", "fold b c", "fold b A", "fold b ", "fold  a", "fold  ", "fold x y")

    def test_trim(self):
        self.check_made("trim a cards", "a", CARDS.replace(", stay end 1)", ")"))
        self.check_made("trim coins coins", "coins", COINS)
        self.check_made("trim cards cards", "cards", CARDS.replace(", stay end 1)", ")"))
        self.check_refused(TooGreat, "trim a great", "trim b great", "trim great great")
        self.check_refused(NoRow, "trim", "trim b", "trim b a ", "trim b a a", "trim  b a")
        self.check_refused(NoName, "trim B a", "trim b c", "trim b ", "trim  a", "trim B great")

    def test_turn(self):
        back = COINS.replace("move 1", "move 3").replace("move 2", "move 1").replace("move 3", "move 2")
        back = back.replace("end 1", "end 2").replace("end -1", "end 1").replace("end 2", "end -1")
        self.check_made("turn a coins", "a", back)
        self.check_made("turn a a", "a", COINS)
        self.check_made("turn great great", "great", shown(turned(read(GREAT))))
        self.check_refused(NoRow, "turn", "turn b", "turn b a ", "turn b a a", "turn  b a", "turn b  a")
        self.check_refused(NoName, "turn B a", "turn b c", "turn b ", "turn  a")

    def test_keen(self):
        self.check_made("keen a cards 2 card", "a", shown(keener(POKER, 2, "card")[0]))
        self.check_made("keen b coins 1 card", "b", COINS.replace("one", "s1"))
        self.check_made("keen b coins 1 ", "b", COINS.replace("one", "s1"))
        self.check_made("keen b coins 2 No/Name", "b", COINS.replace("two", "s1"))
        self.check_made("keen cards cards 2 card", "cards", self.texts["a"])
        self.check_made("keen great great 1 x", "great", shown(keener(read(GREAT), 1, "x")[0]))
        self.check_refused(
            NoRow, "keen", "keen a", "keen a coins", "keen a coins 1", "keen a coins 1 x y", "keen a coins 1  ",
        )
        self.check_refused(
            NoRow, "keen a coins 3 x", "keen a coins 0 x", "keen a coins  x", "keen a coins 01 x",
            "keen a coins 1x x",
        )
        self.check_refused(
            NoName, "keen A coins 1 x", "keen a c 1 x", "keen a  1 x", "keen a c 3 x", "keen A coins 3 x",
        )
        many = "deal d(" + ", ".join(["1/9 move 1 k(a end 0)"] * 9) + ")"
        self.check_made("game x " + many, "x", many)
        self.check_refused(TooGreat, "keen new x 1 d", "keen x x 1 d")
        self.check_made("keen x x 1 e", "x", many.replace("k", "s1"))

    def test_stake(self):
        self.check_made("stake a coins 0.0 3", "a", COINS.replace("heads end 1,", "heads end 3,"))
        self.check_made("stake a coins 1.1 -7/2", "a", COINS.replace("tails end 1)", "tails end -7/2)"))
        self.check_made("stake coins coins 1.0 0", "coins", COINS.replace("heads end -1", "heads end 0"))
        self.check_made("game b end 1", "b", "end 1")
        self.check_made("stake b b - 999999999999/998", "b", "end 999999999999/998")
        wide_deal = "deal d(" + ", ".join(["1/13 end 0"] * 13) + ")"
        self.check_made("game x " + wide_deal, "x", wide_deal)
        self.check_made("stake x x 12 5", "x", wide_deal[:-2] + "5)")
        self.check_made("stake x x 0 4", "x", "deal d(1/13 end 4" + wide_deal[len("deal d(1/13 end 0"):-2] + "5)")

    def test_stake_refused(self):
        self.check_refused(
            NoRow, "stake", "stake a", "stake a coins", "stake a coins 0.0", "stake a coins 0.0 1 ",
            "stake a coins 0.0 1 2",
        )
        self.check_refused(
            NoName, "stake A coins 0.0 1", "stake a c 0.0 1", "stake a  0.0 1", "stake a c x x", "stake A coins x x",
        )
        self.check_refused(
            NoRow, "stake a coins 0. 1", "stake a coins .0 1", "stake a coins 0..0 1", "stake a coins 00.0 1",
            "stake a coins 0.01 1", "stake a coins  1", "stake a coins . 1", "stake a coins -- 1",
            "stake a coins -1 1", "stake a coins 0.-1 1", "stake a coins 0,0 1", "stake a coins 100 1",
            "stake a coins 0.100 1", "stake a coins x 1", "stake a coins 0.0x 1", "stake a coins (0,) 1",
            "stake a coins +0 1", "stake a coins 0.- 1", "stake a coins 0.0. x",
        )
        self.check_refused(
            NoText, "stake a coins 0.0 ", "stake a coins 0.0 2/4", "stake a coins 0.0 x", "stake a coins 0.0 -0",
            "stake a coins 0.0 1/0", "stake a coins 0.0 " + "1" * 31, "stake a coins 5.5 x", "stake a coins - 01",
        )
        self.check_refused(
            NoPlace, "stake a coins - 1", "stake a coins 0 1", "stake a coins 2 1", "stake a coins 0.2 1",
            "stake a coins 0.0.0 1", "stake a coins 99 1", "stake a coins 0.99 1", "stake a coins 10.0 1",
            "stake a coins 0 " + "1" * 30, "stake a great 0 1", "stake coins coins 0.0.0.0.0.0.0.0.0.0.0.0.0.0.0.0 1",
        )
        self.check_refused(
            TooGreat, "stake a coins 0.0 " + "1" * 13, "stake a coins 0.0 1/1000", "stake coins coins 0.0 1/1009",
        )

    def test_stake_of_a_folded_game(self):
        self.check_made("fold a far", "a", shown(folded(read(FAR))))
        self.check_refused(TooGreat, "stake b a 0 1", "stake a a 1.0 2")
        self.check_refused(NoPlace, "stake b a - 1", "stake b a 1 1")
        # What stays within the bounds is let by.
        self.check_made("stake b far 0.0 8", "b", FAR.replace("end 1,", "end 8,"))
        self.check_made("fold b b", "b", shown(folded(read(self.texts["b"]))))
        self.check_made("fold x cards", "x", CARDS)
        self.check_made("stake x x 0.1 8", "x", CARDS.replace("stay end 1)", "stay end 8)"))

    def test_folded_games_are_asked_like_others(self):
        self.check_made("fold a far", "a", shown(folded(read(FAR))))
        far = read(FAR)
        worth, one, two = balance(far)
        self.assertEqual(self.desk.say("worth a"), text_of(worth))
        self.assertEqual(self.desk.say("plan a 1"), "k 1 0")
        self.assertEqual(self.desk.say("holds a 1 k 1 0"), text_of(worth))
        self.assertEqual(self.desk.say("best a 2 "), "k 1 0")
        self.assertEqual(self.desk.say("most a 1 k a"), "1")
        self.assertEqual(self.desk.say("gain a 1 e"), "0")
        self.assertEqual(self.desk.say("sees a 1"), "k")
        self.assertEqual(self.desk.say("gain a 1 d"), text_of(gain(folded(far), 1, "d")))
        self.check_made("turn b a", "b", shown(turned(folded(far))))
        self.check_made("keen b a 1 d", "b", shown(keener(folded(far), 1, "d")[0]))
        self.check_made("trim b a", "b", shown(trimmed(folded(far))[0]))

    def test_drop(self):
        self.assertEqual(self.desk.say("drop coins"), "ok")
        self.texts.pop("coins")
        self.check_standing()
        self.check_refused(NoName, "drop coins", "drop a", "drop A", "drop ", "drop 123456789")
        self.check_refused(NoRow, "drop", "drop cards ", "drop cards far", "drop  cards", "drop cards  ", "Drop cards")
        self.check_made("game coins end 1", "coins", "end 1")

    def test_show(self):
        self.assertEqual(self.desk.say("show cards"), CARDS)
        self.check_refused(NoRow, "show", "show cards ", "show cards cards", "show  cards", " show cards", "SHOW cards")
        self.check_refused(NoName, "show a", "show Cards", "show ", "show 123456789")

    def test_worth(self):
        self.assertEqual(self.desk.say("worth coins"), "0")
        self.assertEqual(self.desk.say("worth cards"), "1/3")
        self.assertEqual(self.desk.say("turn a cards"), "ok")
        self.assertEqual(self.desk.say("worth a"), "-1/3")
        self.texts["a"] = self.desk.say("show a")
        self.check_refused(TooGreat, "worth great")
        self.check_refused(NoRow, "worth", "worth cards ", "worth cards 1", "worth  cards")
        self.check_refused(NoName, "worth x", "worth ", "worth X")

    def test_plan(self):
        self.assertEqual(self.desk.say("plan coins 1"), "one 1/2 1/2")
        self.assertEqual(self.desk.say("plan coins 2"), "two 1/2 1/2")
        self.assertEqual(self.desk.say("plan cards 1"), "high 1 0; low 1/3 2/3")
        self.assertEqual(self.desk.say("plan cards 2"), "bet 2/3 1/3")
        self.assertEqual(self.desk.say("plan far 2"), "")
        self.check_refused(TooGreat, "plan great 1", "plan great 2")
        self.check_refused(
            NoRow, "plan", "plan coins", "plan coins 1 ", "plan coins 1 1", "plan coins ", "plan coins 3",
            "plan coins  1",
        )
        self.check_refused(NoRow, "plan great 3", "plan great x", "plan coins 11", "plan coins -1")
        self.check_refused(NoName, "plan x 1", "plan x 3", "plan  1", "plan X x")

    def test_holds(self):
        self.assertEqual(self.desk.say("holds coins 1 one 1/3 2/3"), "-1/3")
        self.assertEqual(self.desk.say("holds coins 2 two 1/3 2/3"), "1/3")
        self.assertEqual(self.desk.say("holds cards 1 low 1/3 2/3; high 1 0"), "1/3")
        self.assertEqual(self.desk.say("holds far 2 "), str(slow_held(read(FAR), 2, {})))
        plan = a_plan(random.Random(5), read(GREAT), 1)
        row = "holds great 1 " + show_plan(read(GREAT), 1, plan)
        self.assertEqual(self.desk.say(row), str(slow_held(read(GREAT), 1, plan)))
        self.check_refused(
            NoRow, "holds", "holds coins", "holds coins 1", "holds far 2", "holds x 1", "holds coins 3", "holds  ",
        )
        self.check_refused(
            NoRow, "holds coins 3 one 1/2 1/2", "holds coins  one 1/2 1/2", "holds coins x x", "holds far 0 ",
        )
        self.check_refused(NoName, "holds x 1 one 1/2 1/2", "holds X 3 x", "holds  1 one 1/2 1/2", "holds x 1 ")
        self.check_refused(
            NoText, "holds coins 1 x", "holds coins 1  one 1/2 1/2", "holds coins 1 one 1/2 1/2 ",
            "holds coins 1 one 2/4 1/2", "holds coins 1 one", "holds coins 1 one 1/2 1/2; one 1/2 1/2",
            "holds far 2  ", "holds coins 1 two 1;",
        )
        self.check_refused(
            NoPlan, "holds coins 1 ", "holds coins 1 two 1/2 1/2", "holds coins 2 one 1/2 1/2", "holds coins 1 one 1",
            "holds coins 1 one 1/2 1/3", "holds far 2 k 1 0", "holds coins 1 one 2 -1", "holds great 1 n0 1 0",
        )

    def test_best(self):
        self.assertEqual(self.desk.say("best coins 1 one 1/3 2/3"), "two 1 0")
        self.assertEqual(self.desk.say("best coins 1 one 1/2 1/2"), "two 1 0")
        self.assertEqual(self.desk.say("best coins 2 two 1/3 2/3"), "one 0 1")
        self.assertEqual(self.desk.say("best cards 2 bet 0 1"), "high 1 0; low 1 0")
        self.assertEqual(self.desk.say("best far 1 k 0 1"), "")
        self.assertEqual(self.desk.say("best far 2 "), "k 1 0")
        self.check_refused(
            NoRow, "best", "best coins", "best coins 1", "best far 2", "best coins 3 one 1 0", "best coins  one 1 0",
        )
        self.check_refused(NoName, "best x 1 one 1/2 1/2", "best X 3 x", "best  1 one 1 0")
        self.check_refused(NoText, "best coins 1 x", "best coins 1  one 1 0", "best far 2  ", "best coins 1 one 1 0 ")
        self.check_refused(NoPlan, "best coins 1 ", "best coins 1 two 1 0", "best coins 1 one 1", "best great 2 n0 1")

    def test_most(self):
        self.assertEqual(self.desk.say("most coins 1 one heads"), "1/2")
        self.assertEqual(self.desk.say("most cards 1 low bet"), "1/3")
        self.assertEqual(self.desk.say("most cards 1 high stay"), "0")
        self.assertEqual(self.desk.say("most cards 2 bet call"), "2/3")
        self.check_refused(
            NoRow, "most", "most coins 1 one", "most coins 1 one heads x", "most coins 1 one heads ", "most coins 1",
        )
        self.check_refused(
            NoRow, "most coins 3 one heads", "most coins  one heads", "most coins 12 one heads", "most great 3 n0 x",
        )
        self.check_refused(NoName, "most x 1 one heads", "most X 3 one heads", "most  1 one heads")
        self.check_refused(
            NoWord, "most coins 1 two heads", "most coins 2 one heads", "most coins 1 one x", "most coins 1 one ",
            "most coins 1  one", "most coins 1  ", "most great 1 n0 x", "most great 2 n9 a", "most coins 1 One Heads",
        )
        self.check_refused(TooGreat, "most great 1 n0 a", "most great 2 n0 b")

    def test_gain(self):
        self.assertEqual(self.desk.say("gain cards 2 card"), "1/3")
        self.assertEqual(self.desk.say("gain cards 1 card"), "0")
        self.assertEqual(self.desk.say("gain cards 2 "), "0")
        self.assertEqual(self.desk.say("gain cards 2 Nothing;"), "0")
        self.check_refused(
            NoRow, "gain", "gain cards 2", "gain cards 2 card ", "gain cards 2 card x", "gain cards",
            "gain cards 2  ",
        )
        self.check_refused(NoRow, "gain cards 3 card", "gain cards  card", "gain great 0 d")
        self.check_refused(NoName, "gain x 2 card", "gain X 3 card", "gain  2 card")
        self.check_refused(TooGreat, "gain great 1 d", "gain great 2 x")

    def test_sees(self):
        self.assertEqual(self.desk.say("sees coins 1"), "one")
        self.assertEqual(self.desk.say("sees cards 1"), "high low")
        self.assertEqual(self.desk.say("sees cards 2"), "bet")
        self.assertEqual(self.desk.say("sees far 2"), "")
        self.assertEqual(self.desk.say("sees great 1"), "n0 n1 n2 n3")
        self.check_made("game a " + shown(TWICE), "a", shown(TWICE))
        self.assertEqual(self.desk.say("sees a 1"), "first second third")
        self.check_refused(
            NoRow, "sees", "sees coins", "sees coins 1 ", "sees coins 1 1", "sees coins 3", "sees coins ",
            "sees coins  1",
        )
        self.check_refused(NoName, "sees x 1", "sees x 3", "sees  1", "sees X 3")

    def test_rows_that_are_none(self):
        self.check_refused(
            NoRow, "", " ", "  ", "x", "x coins", "Show coins", " show coins", "show\tcoins", "end 1", "new a",
            "old coins", "side 1", "word x", "way 0", "fraction 1", "text end 1", "ok", "holds\n", "showcoins", COINS,
        )
        self.check_refused(NoRow, *STRANGE)
        self.check_refused(NoRow, ["show", "coins"], ("show", "coins"), b"show coins", {"show": "coins"})

    def test_the_number_of_words_comes_ahead_of_all(self):
        self.check_refused(
            NoRow, "fold A", "keen A B 3", "stake A B x", "holds X 3", "most X 3 a", "gain X 3", "plan X", "sees X",
            "game A", "trim A B C", "turn A B ", "drop A ", "worth A 1", "best X 1",
        )


class Desks(unittest.TestCase):
    def test_beside_one_another(self):
        first, second = Desk(), Desk()
        first.say("game a end 1")
        second.say("game a end 2")
        second.say("game b end 3")
        self.assertEqual((first.say("show a"), second.say("show a")), ("end 1", "end 2"))
        with self.assertRaises(NoName):
            first.say("show b")
        second.say("drop a")
        self.assertEqual(first.say("show a"), "end 1")

    def test_a_new_desk_is_bare(self):
        for row in ["show a", "drop a", "worth game", "fold a a", "keen a a 1 x", "stake a a - 1", "holds a 1 "]:
            with self.assertRaises(NoName):
                Desk().say(row)

    def test_what_is_made_of_a_game_stays_as_it_is(self):
        desk = Desk()
        desk.say("game a " + CARDS)
        desk.say("turn b a")
        text = desk.say("show b")
        desk.say("stake a a 0.1 9")
        self.assertEqual(desk.say("show b"), text)
        desk.say("drop a")
        self.assertEqual(desk.say("show b"), text)
        self.assertEqual(desk.say("worth b"), "-1/3")

    def test_asked_again(self):
        desk = Desk()
        desk.say("game a " + CARDS)
        for row in [
            "show a", "worth a", "plan a 1", "plan a 2", "best a 2 bet 1/2 1/2", "holds a 2 bet 1 0", "most a 1 low bet",
            "sees a 1", "gain a 2 card",
        ]:
            self.assertEqual(desk.say(row), desk.say(row))
            self.assertIs(type(desk.say(row)), str)

    def test_answers_are_those_of_the_modules(self):
        source = random.Random(100)
        for game in [PENNIES, TWICE, FOUR_PENNIES] + WRITTEN + sound_games(source, 60, 5):
            desk = Desk()
            self.assertEqual(desk.say("game g " + shown(game)), "ok")
            self.assertEqual(desk.say("show g"), shown(game))
            self.assertEqual([desk.say("fold f g"), desk.say("show f")], ["ok", shown(folded(game))])
            for side in (1, 2):
                plan = a_plan(source, game, side)
                rest = f"g {side} " + show_plan(game, side, plan)
                self.assertEqual(desk.say(f"sees g {side}"), " ".join(row[1] for row in slow_rows(game, side)))
                if len(repr(game)) < 1500:
                    holds = slow_held(game, side, plan)
                    self.assertEqual(desk.say("holds " + rest), str(holds))
                    answer = read_plan(game, 3 - side, desk.say("best " + rest))
                    self.assertTrue(all(set(shares) <= {(0, 1), (1, 1)} for shares in answer.values()))
            self.check_balance_rows(desk, game)

    def check_balance_rows(self, desk, game):
        rows = ["worth g", "plan g 1", "plan g 2", "trim t g", "gain g 1 none"]
        if not is_small(game):
            for row in rows:
                with self.assertRaises(TooGreat):
                    desk.say(row)
            return
        worth = desk.say("worth g")
        for side in (1, 2):
            plan = desk.say(f"plan g {side}")
            self.assertEqual(desk.say(f"holds g {side} {plan}"), worth)
            self.assertEqual(read_plan(game, side, plan), balance(game)[side])
        self.assertEqual([desk.say("trim t g"), desk.say("show t")], ["ok", shown(trimmed(game)[0])])
        self.assertEqual(desk.say("worth t"), worth)


if __name__ == "__main__":
    unittest.main()
