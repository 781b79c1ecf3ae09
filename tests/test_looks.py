"""Promises [10], [11] and [12], and [2] where it speaks of looking."""

import copy
import random
import unittest
from fractions import Fraction

from hushduel.errors import DuelError, Forgets, NoShares, TooGreat, Unlike
from hushduel.looks import look
from tests.helpers import (
    CHANCE, LEAF, LONE, LONE_TWO, PENNIES, POKER, TWICE, WRITTEN, deal, end, evenly, is_let_by, move, pair, slow_table,
    sound_games, walk,
)

WORDS = "abcdef"


def move_of(side, seen, count):
    return move(side, seen, **{word: LEAF for word in WORDS[:count]})


def chain(length, game=LEAF):
    for step in range(length):
        game = deal("d", (1, game))
    return game


def names(side, counts):
    """A deal, each of its branches a move with so many words and a name of its own."""
    return evenly("d", *[move_of(side, "n" + str(number), count) for number, count in enumerate(counts)])


class Refused(unittest.TestCase):
    def check_too_great(self, game):
        with self.assertRaises(TooGreat):
            look(game)

    def check_shares(self, game, way):
        with self.assertRaises(NoShares) as caught:
            look(game)
        self.assertEqual(caught.exception.way, way)
        self.assertIs(type(caught.exception.way), tuple)

    def check_two(self, refusal, game, one, other):
        with self.assertRaises(refusal) as caught:
            look(game)
        self.assertEqual((caught.exception.one, caught.exception.other), (one, other))


class Tables(unittest.TestCase):
    def test_written_out(self):
        self.assertEqual(look(LEAF), [])
        self.assertEqual(look(CHANCE), [])
        self.assertEqual(look(LONE), [(1, "only", ("a", "b", "c"), ())])
        self.assertEqual(look(LONE_TWO), [(2, "only", ("a", "b"), ())])
        self.assertEqual(look(PENNIES), [(1, "one", ("heads", "tails"), ()), (2, "two", ("heads", "tails"), ())])

    def test_in_the_order_of_the_first_places(self):
        self.assertEqual(
            look(POKER),
            [(1, "high", ("bet", "stay"), ()), (2, "bet", ("call", "fold"), ()), (1, "low", ("bet", "stay"), ())],
        )
        turned_about = ("deal", "card", tuple(reversed(POKER[2])))
        self.assertEqual([row[:2] for row in look(turned_about)], [(1, "low"), (2, "bet"), (1, "high")])

    def test_a_record_is_of_the_own_moves_alone(self):
        self.assertEqual(
            look(TWICE),
            [
                (1, "first", ("go", "stay"), ()),
                (2, "reply", ("left", "right"), ()),
                (1, "second", ("up", "down"), (("first", "go"),)),
                (1, "third", ("up", "down"), (("first", "go"),)),
            ],
        )

    def test_a_long_record(self):
        game = LEAF
        for number in range(6, 0, -1):
            game = move(number % 2 + 1, "n" + str(number), x=game)
        table = look(game)
        self.assertEqual(table[-1], (1, "n6", ("x",), (("n2", "x"), ("n4", "x"))))
        self.assertEqual(table[-2], (2, "n5", ("x",), (("n1", "x"), ("n3", "x"))))

    def test_the_same_name_seen_by_both_sides(self):
        game = move(1, "k", a=move(2, "k", x=LEAF, y=LEAF, z=LEAF), b=move(2, "k", x=LEAF, y=LEAF, z=LEAF))
        self.assertEqual(look(game), [(1, "k", ("a", "b"), ()), (2, "k", ("x", "y", "z"), ())])

    def test_words_and_deals_called_like_names(self):
        game = evenly("k", move(1, "k", k=deal("k", (1, LEAF))), move(1, "k", k=LEAF))
        self.assertEqual(look(game), [(1, "k", ("k",), ())])

    def test_one_name_at_many_places_is_one_row(self):
        game = evenly("d", *[move(1, "k", a=move(1, "l", b=LEAF), c=LEAF) for step in range(7)])
        self.assertEqual(look(game), [(1, "k", ("a", "c"), ()), (1, "l", ("b",), (("k", "a"),))])

    def test_some_games(self):
        for game in WRITTEN + sound_games(random.Random(11), 200, 5):
            self.assertEqual(look(game), slow_table(game))

    def test_kinds(self):
        table = look(TWICE)
        self.assertIs(type(table), list)
        for row in table:
            self.assertEqual([type(part) for part in row], [int, str, tuple, tuple])
            self.assertIs(type(row), tuple)

    def test_the_table_is_the_askers_own(self):
        game = copy.deepcopy(POKER)
        wanted = slow_table(POKER)
        told = look(game)
        told.clear()
        told = look(game)
        told[0] = None
        self.assertEqual(look(game), wanted)
        self.assertEqual(game, POKER)


class Great(Refused):
    def check_edge(self, let_by, refused):
        self.assertEqual(look(let_by), slow_table(let_by))
        self.check_too_great(refused)

    def test_places(self):
        self.check_edge(evenly("d", *[LEAF] * 63), evenly("d", *[LEAF] * 64))
        wide = [move_of(1, "k", 6)] * 9
        self.check_edge(evenly("d", *wide), evenly("d", *wide, LEAF))
        self.check_too_great(evenly("d", *[evenly("e", *[LEAF] * 16)] * 16))

    def test_like_places_are_each_counted(self):
        self.check_too_great(evenly("d", *[evenly("e", *[LEAF] * 32)] * 2))

    def test_ways(self):
        self.check_edge(chain(12), chain(13))
        self.check_too_great(chain(20))
        self.check_edge(chain(11, move_of(1, "k", 2)), chain(12, move_of(1, "k", 2)))
        self.check_edge(evenly("d", LEAF, chain(11)), evenly("d", LEAF, chain(12)))

    def test_names(self):
        for side in (1, 2):
            self.check_edge(names(side, [1] * 8), names(side, [1] * 9))
        both = [names(1, [2] * 8), names(2, [1] * 8)]
        self.check_edge(evenly("d", *both), evenly("d", both[0], names(2, [1] * 9)))

    def test_names_within_one_another(self):
        def deep(length):
            game = LEAF
            for number in range(length, 0, -1):
                game = move(2, "n" + str(number), a=game, b=LEAF)
            return game
        self.check_edge(deep(8), deep(9))

    def test_words(self):
        for side in (1, 2):
            self.check_edge(names(side, [6] * 4), names(side, [6] * 4 + [1]))
            self.check_edge(names(side, [3] * 8), names(side, [3] * 7 + [4]))
        both = [names(1, [6] * 4), names(2, [6] * 4)]
        self.check_edge(evenly("d", *both), evenly("d", both[0], names(2, [6] * 4 + [1])))

    def test_words_of_one_name_count_once(self):
        game = evenly("d", *[move_of(1, "k", 6)] * 6)
        self.assertEqual(look(game), [(1, "k", tuple(WORDS), ())])

    def test_words_of_the_first_place_are_counted(self):
        few_first = evenly("d", names(1, [6, 6, 6, 5, 1]), move_of(1, "n4", 6))
        self.check_two(Unlike, few_first, (0, 4), (1,))
        many_first = evenly("d", names(1, [6, 6, 6, 5, 2]), move_of(1, "n4", 1))
        self.check_too_great(many_first)

    def test_stakes(self):
        most = 10 ** 12 - 1
        for stake in [most, -most, Fraction(1, 999), Fraction(-1, 999), Fraction(most, 998), Fraction(-most, 998)]:
            self.assertEqual(look(move(1, "k", a=LEAF, b=end(stake))), [(1, "k", ("a", "b"), ())])
        thousandth = Fraction(1, 1000)
        for stake in [most + 1, -most - 1, thousandth, -thousandth, Fraction(most + 2, 2), 10 ** 40, Fraction(1, 10 ** 30)]:
            self.check_too_great(end(stake))
            self.check_too_great(move(2, "k", a=LEAF, b=end(stake)))

    def test_shares(self):
        self.assertEqual(look(deal("d", (Fraction(1, 999), LEAF), (Fraction(998, 999), LEAF))), [])
        self.check_too_great(deal("d", (Fraction(1, 1000), LEAF), (Fraction(999, 1000), LEAF)))
        self.check_shares(deal("d", (10 ** 12 - 1, LEAF)), ())
        self.check_shares(deal("d", (1 - 10 ** 12, LEAF)), ())
        self.check_too_great(deal("d", (10 ** 12, LEAF)))
        self.check_too_great(deal("d", (-10 ** 12, LEAF)))

    def test_too_great_comes_ahead_of_the_others(self):
        wrong = deal("d", (Fraction(1, 2), LEAF))
        unlike = evenly("d", move_of(1, "k", 1), move_of(1, "k", 2))
        forgets = move(1, "k", a=move(1, "k", a=LEAF))
        for game in [wrong, unlike, forgets]:
            with self.assertRaises((NoShares, Unlike, Forgets)):
                look(evenly("d", game, LEAF))
            greats = [chain(12), names(1, [1] * 9), names(2, [6, 6, 6, 6, 1]), evenly("d", *[LEAF] * 64)]
            for great in greats + [end(10 ** 12), end(Fraction(1, 1000))]:
                self.check_too_great(evenly("d", game, great))


class Sound(Refused):
    def test_shares_that_do_not_come_to_one(self):
        third = Fraction(1, 3)
        half = Fraction(1, 2)
        for shares in [[half], [2], [third, third], [third] * 4, [half, half, Fraction(1, 998)]]:
            game = deal("d", *[(share, LEAF) for share in shares])
            self.check_shares(game, ())
            self.check_shares(evenly("e", LEAF, move(1, "k", a=game)), (1, 0))

    def test_shares_not_above_nought(self):
        half = Fraction(1, 2)
        for shares in [[0], [-1], [1, 0], [0, 1], [2, -1], [half, 0, half], [3 * half, -half], [-half, 3 * half]]:
            self.check_shares(deal("d", *[(share, LEAF) for share in shares]), ())

    def test_other_words(self):
        first = move(1, "k", a=LEAF, b=LEAF)
        for other in [move(1, "k", a=LEAF), move(1, "k", b=LEAF, a=LEAF), move(1, "k", a=LEAF, c=LEAF), move_of(1, "k", 3)]:
            self.check_two(Unlike, evenly("d", first, other), (0,), (1,))
            self.check_two(Unlike, evenly("d", LEAF, first, first, chain(2, other)), (1,), (3, 0, 0))
        look(evenly("d", first, move(2, "k", x=LEAF)))

    def test_another_record(self):
        self.check_two(Forgets, move(1, "k", a=move(1, "k", a=LEAF)), (), (0,))
        game = move(1, "k", a=move(1, "l", x=LEAF), b=move(1, "l", x=LEAF))
        self.check_two(Forgets, game, (0,), (1,))
        game = evenly("d", move(2, "m", x=LEAF), move(2, "k", a=move(2, "m", x=LEAF)))
        self.check_two(Forgets, game, (0,), (1, 0))
        game = evenly("d", move(2, "k", a=move(2, "l", a=move(2, "m", x=LEAF))), move(2, "l", a=LEAF))
        self.check_two(Forgets, game, (0, 0), (1,))

    def test_the_order_of_a_record_counts(self):
        deep = move(1, "k", a=move(1, "l", a=move(1, "m", x=LEAF)))
        other = move(1, "l", a=move(1, "k", a=move(1, "m", x=LEAF)))
        self.check_two(Forgets, evenly("d", deep, other), (0, 0), (1,))

    def test_what_the_other_side_did_is_no_part_of_the_record(self):
        game = move(2, "k", a=move(1, "l", x=LEAF), b=deal("d", (1, move(1, "l", x=LEAF))))
        self.assertEqual(look(game), [(2, "k", ("a", "b"), ()), (1, "l", ("x",), ())])

    def test_unlike_comes_ahead_of_forgets_at_one_place(self):
        self.check_two(Unlike, move(1, "k", a=move(1, "k", b=LEAF)), (), (0,))
        self.check_two(Unlike, move(1, "k", a=move(1, "l", x=LEAF), b=move(1, "l", y=LEAF)), (0,), (1,))

    def test_the_first_place_in_order_is_told(self):
        wrong = deal("d", (2, LEAF))
        unlike = [move_of(1, "k", 2), move_of(1, "k", 3)]
        forgets = move(2, "l", a=move(2, "l", a=LEAF))
        self.check_shares(evenly("d", wrong, wrong), (0,))
        self.check_shares(evenly("d", *unlike[:1], wrong, *unlike[1:], forgets), (1,))
        self.check_two(Unlike, evenly("d", *unlike, wrong, forgets), (0,), (1,))
        self.check_two(Forgets, evenly("d", forgets, *unlike, wrong), (0,), (0, 0))
        self.check_two(Forgets, evenly("d", *unlike[:1], forgets, *unlike[1:], wrong), (1,), (1, 0))
        # The place itself comes ahead of all that is behind it, whatever is deeper there.
        self.check_shares(deal("d", (2, move(1, "k", a=move(1, "k", b=LEAF)))), ())
        self.check_two(Forgets, move(1, "k", a=move(1, "k", a=deal("d", (2, LEAF)))), (), (0,))
        self.check_shares(move(1, "k", a=deal("d", (2, move(1, "k", a=LEAF)))), (0,))

    def test_the_first_place_of_the_name_is_told_not_a_later_one(self):
        game = evenly("d", *[move_of(1, "k", 2)] * 11, move_of(1, "k", 3))
        self.check_two(Unlike, game, (0,), (11,))
        game = evenly("d", *[move_of(1, "k", 2)] * 2, *[move_of(1, "k", 3)] * 2)
        self.check_two(Unlike, game, (0,), (2,))

    def test_ten_comes_behind_nine(self):
        self.check_shares(evenly("d", *[LEAF] * 9, deal("e", (2, LEAF)), deal("e", (2, LEAF))), (9,))

    def test_games_spoiled_by_chance(self):
        source = random.Random(12)
        seen = {}
        for step in range(1500):
            game = spoiled(source, source.choice(GAMES))
            wanted = slow_refusal(game)
            try:
                self.assertEqual(look(game), slow_table(game))
                told = None
            except NoShares as error:
                told = ("NoShares", error.way)
            except (Unlike, Forgets) as error:
                told = (type(error).__name__, error.one, error.other)
            except TooGreat:
                told = ("TooGreat",)
            self.assertEqual(told, wanted)
            seen[told and told[0]] = True
        self.assertGreaterEqual(set(seen), {None, "NoShares", "Unlike", "Forgets", "TooGreat"})

    def test_asked_again_the_same_is_refused(self):
        game = evenly("d", move_of(1, "k", 2), move_of(1, "k", 3))
        for step in range(3):
            self.check_two(Unlike, game, (0,), (1,))
            self.assertEqual(look(POKER), slow_table(POKER))
        with self.assertRaises(DuelError):
            look(game)


GAMES = sound_games(random.Random(13), 60, 5, lambda game: game[0] != "end")


def spoiled(source, game):
    """The game with something changed here and there: names seen, words, shares, sides, stakes."""
    if game[0] == "end":
        return end(10 ** 12) if source.random() < 0.01 else game
    ways = [(lead, spoiled(source, branch)) for lead, branch in game[-1]]
    if game[0] == "deal":
        if source.random() < 0.05:
            ways[0] = (pair(source.choice([0, 1, -1, Fraction(1, 5)])), ways[0][1])
        return game[:2] + (tuple(ways),)
    if source.random() < 0.1:
        source.shuffle(ways)
    seen = source.choice(["n0", "n1", "n2"]) if source.random() < 0.1 else game[2]
    return ("move", game[1], seen, tuple(ways))


def slow_refusal(game):
    numbers = [place[1] for way, place, chance, records in walk(game) if place[0] == "end"]
    if not is_let_by(game) or (10 ** 12, 1) in numbers:
        return ("TooGreat",)
    firsts = []
    for way, place, chance, records in walk(game):
        if place[0] == "deal":
            shares = [Fraction(*share) for share, branch in place[2]]
            if min(shares) <= 0 or sum(shares) != 1:
                return ("NoShares", way)
        if place[0] == "move":
            words = [word for word, branch in place[3]]
            record = records[place[1] - 1]
            same = [first for first in firsts if first[0] == place[1:3]] + [(None, way, words, record)]
            firsts.append((place[1:3], way, words, record))
            if words != same[0][2]:
                return ("Unlike", same[0][1], way)
            if record != same[0][3]:
                return ("Forgets", same[0][1], way)
    return None


if __name__ == "__main__":
    unittest.main()
