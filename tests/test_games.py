"""Promises [6], [7] and [8], and [2] where it speaks of games."""

import copy
import random
import string
import unittest

from hushduel import games
from hushduel.errors import NoPlace
from hushduel.ratios import is_ratio

NAME_SIGNS = string.ascii_lowercase + string.digits
LEAF = ("end", (0, 1))
HALF = (1, 2)
END = ("end", (3, 2))
DEAL = ("deal", "coin", ((HALF, END), (HALF, LEAF)))
MOVE = ("move", 1, "king", (("raise", END), ("fold", DEAL)))
DEEP = (
    "deal", "cards", (
        ((1, 3), ("move", 1, "king", (
            ("bet", ("move", 2, "bet", (("call", ("end", (2, 1))), ("fold", ("end", (1, 1)))))),
            ("pass", ("end", (-1, 1))),
        ))),
        ((2, 3), ("deal", "coin", (
            (HALF, ("move", 2, "king", (("go", ("end", (-7, 3))),))),
            (HALF, LEAF),
        ))),
    ),
)
# Whatever is neither a name nor a fraction nor a pair nor a game.
OTHERS = [
    None, True, False, 0, 1, 2, -1, "", "A", "a b", "end", (), (1,), (1, 2, 3), [], ["end", (3, 2)], list(END), {}, {"a": 1},
    {1, 2}, b"a", object(), str, len, range(2), ("end",), ("end", (2, 4)), ("End", (3, 2)), ("ends", (3, 2)),
]


def a_game(source, depth):
    sort = source.choice(["end", "deal", "move"]) if depth > 0 else "end"
    if sort == "end":
        return ("end", source.choice([(0, 1), (1, 1), (-5, 3), (7, 2), (10 ** 30 + 1, 10 ** 30)]))
    count = source.randint(1, 3)
    behind = [a_game(source, depth - 1) for step in range(count)]
    name = source.choice(["a", "king", "z9", "12345678"])
    if sort == "deal":
        return ("deal", name, tuple([((1, count), game) for game in behind]))
    words = source.sample(["a", "bet", "fold", "0"], count)
    return ("move", source.choice([1, 2]), name, tuple(zip(words, behind)))


def some_games():
    source = random.Random(8)
    return [LEAF, END, DEAL, MOVE, DEEP] + [a_game(source, depth) for depth in range(6) for step in range(12)]


SOME = some_games()


def replaced(thing, path, new):
    if path == ():
        return new
    parts = list(thing)
    parts[path[0]] = replaced(parts[path[0]], path[1:], new)
    return tuple(parts)


def paths_of(thing, path=()):
    """All paths by indexes through the tuples of a thing, with what is there."""
    found = [(path, thing)]
    if isinstance(thing, tuple):
        for number, part in enumerate(thing):
            found.extend(paths_of(part, path + (number,)))
    return found


def deal_of(count):
    return ("deal", "d", tuple([((1, 64), LEAF)] * count))


def move_of(count):
    return ("move", 2, "m", tuple([("w" + str(number), LEAF) for number in range(count)]))


def chain(depth):
    game = LEAF
    for step in range(depth):
        game = ("deal", "d", (((1, 1), game),)) if step % 2 == 0 else ("move", 1, "m", (("w", game),))
    return game


class Names(unittest.TestCase):
    def test_each_sign_by_itself(self):
        for number in range(256):
            sign = chr(number)
            with self.subTest(sign=sign):
                self.assertIs(games.is_name(sign), sign in NAME_SIGNS)

    def test_lengths(self):
        for length in range(12):
            with self.subTest(length):
                self.assertIs(games.is_name("abcdefgh0123"[:length]), 1 <= length <= 8)

    def test_one_wrong_sign_at_each_place(self):
        for sign in " ~-_/.,;:()'\"AZ@[`{\n\t\u00e9\u0661":
            for place in range(8):
                with self.subTest(sign=sign, place=place):
                    self.assertIs(games.is_name("abcd1234"[:place] + sign + "abcd1234"[place + 1:]), False)

    def test_right_ones(self):
        for name in ["a", "z", "0", "9", "king", "s1", "12345678", "zzzzzzzz", "00000000", "1", "end", "deal", "move"]:
            self.assertIs(games.is_name(name), True)

    def test_whatever_else(self):
        for thing in [None, True, False, 1, 12, (), ("a",), ("a", "b"), ["a"], {}, {"a": 1}, {"a"}, b"a", object(), str]:
            with self.subTest(thing=thing):
                self.assertIs(games.is_name(thing), False)


class Judged(unittest.TestCase):
    def check_no_game(self, thing):
        self.assertIs(games.is_game(thing), False, repr(thing))

    def test_right_ones(self):
        for game in SOME:
            self.assertIs(games.is_game(game), True)

    def test_names_and_words_have_nothing_to_do_with_one_another(self):
        game = ("deal", "a", (((1, 1), ("move", 1, "a", (("a", ("move", 2, "a", (("a", LEAF), ("b", LEAF)))),))),))
        self.assertIs(games.is_game(game), True)

    def test_shares_need_not_come_to_one(self):
        for shares in [[(0, 1)], [(-1, 2), (5, 1)], [HALF], [(10 ** 40, 1)], [HALF, HALF, HALF]]:
            self.assertIs(games.is_game(("deal", "d", tuple([(share, LEAF) for share in shares]))), True)

    def test_seen_the_same_with_other_words_is_a_game(self):
        other = ("move", 1, "king", (("x", LEAF),))
        self.assertIs(games.is_game(("move", 1, "king", (("a", other), ("b", LEAF)))), True)

    def test_how_many_ways_a_deal_has(self):
        for count in [0, 1, 2, 6, 7, 63, 64, 65, 66]:
            with self.subTest(count):
                self.assertIs(games.is_game(deal_of(count)), 1 <= count <= 64)

    def test_how_many_ways_a_move_has(self):
        for count in [0, 1, 2, 5, 6, 7, 8, 64]:
            with self.subTest(count):
                self.assertIs(games.is_game(move_of(count)), 1 <= count <= 6)

    def test_too_many_ways_far_within(self):
        for inner in [deal_of(0), deal_of(65), move_of(0), move_of(7)]:
            self.check_no_game(replaced(DEEP, (2, 1, 1, 2, 0, 1, 3, 0, 1), inner))
            self.check_no_game(replaced(DEEP, (2, 0, 1, 3, 1, 1), inner))

    def test_sides(self):
        for side in [1, 2]:
            self.assertIs(games.is_game(("move", side, "a", (("b", LEAF),))), True)
        for side in [0, 3, -1, True, False, None, "1", (1,), [1], (1, 1)]:
            self.check_no_game(("move", side, "a", (("b", LEAF),)))

    def test_words_twice(self):
        for words in ["aa", "aba", "abb", "abcdea"]:
            self.check_no_game(("move", 1, "k", tuple([(word, LEAF) for word in words])))
        self.assertIs(games.is_game(("deal", "d", ((HALF, LEAF), (HALF, LEAF)))), True)

    def test_words_and_names_of_each_length(self):
        for length in range(11):
            name = "abcdefghij"[:length]
            right = 1 <= length <= 8
            with self.subTest(length):
                self.assertIs(games.is_game(("move", 1, name, (("b", LEAF),))), right)
                self.assertIs(games.is_game(("move", 1, "b", ((name, LEAF),))), right)
                self.assertIs(games.is_game(("deal", name, (((1, 1), LEAF),))), right)

    def test_shares_and_stakes_that_are_no_fraction(self):
        for wrong in [(2, 4), (1, 0), (1, -1), (True, 1), (1, True), [1, 2], (1,), (1, 2, 3), 1, 0, "1/2", None]:
            self.check_no_game(("end", wrong))
            self.check_no_game(("deal", "d", ((wrong, LEAF),)))
            self.check_no_game(("deal", "d", ((HALF, LEAF), (wrong, LEAF))))

    def test_whatever_else(self):
        for thing in OTHERS:
            self.check_no_game(thing)
        for first in [None, 1, True, (), ["end"], b"end", object(), LEAF]:
            self.check_no_game((first, (3, 2)))
            self.check_no_game((first, "a", ((HALF, LEAF),)))
            self.check_no_game((first, 1, "a", (("b", LEAF),)))

    def test_one_sort_with_the_parts_of_another(self):
        for game in [END, DEAL, MOVE]:
            for sort in ["end", "deal", "move", "", "deals"]:
                if sort != game[0]:
                    self.check_no_game((sort,) + game[1:])

    def test_a_part_left_out_or_put_in_anywhere(self):
        for path, thing in paths_of(DEEP):
            if isinstance(thing, tuple) and not is_ratio(thing):
                self.check_no_game(replaced(DEEP, path, thing + (None,)))
                if len(thing) != 1 and path[-1:] != (2,) and path[-1:] != (3,):
                    self.check_no_game(replaced(DEEP, path, thing[:-1]))

    def test_a_list_in_the_place_of_a_tuple_anywhere(self):
        for path, thing in paths_of(DEEP):
            if isinstance(thing, tuple):
                self.check_no_game(replaced(DEEP, path, list(thing)))

    def test_true_in_the_place_of_one_anywhere(self):
        seen = 0
        for path, thing in paths_of(DEEP):
            if isinstance(thing, int) and thing == 1:
                seen += 1
                self.check_no_game(replaced(DEEP, path, True))
        self.assertGreater(seen, 5)

    def test_each_part_spoiled_at_each_depth(self):
        for path, thing in paths_of(DEEP):
            for wrong in [None, True, -8, "", "A", "too long a name", (), [], {}, object(), b"a"]:
                with self.subTest(path=path, wrong=wrong):
                    # Another whole number may stand as a top: there the game stays one.
                    if not (wrong == -8 and isinstance(thing, int) and is_ratio(replaced_top(path, wrong))):
                        self.check_no_game(replaced(DEEP, path, wrong))

    def test_a_wrong_game_in_the_place_of_each_game_within(self):
        for way, game in games.places_of(DEEP):
            for wrong in OTHERS:
                spoiled = replaced(DEEP, index_path(way), wrong)
                self.check_no_game(spoiled)

    def test_as_deep_as_things_go(self):
        for depth in [20, 60, 200]:
            self.assertIs(games.is_game(chain(depth)), True)
            self.check_no_game(replaced(chain(depth), index_path((0,) * depth), None))

    def test_what_is_handed_in_stays_and_is_judged_the_same_again(self):
        thing = ["move", 1, "a", [["b", ["end", [1, 1]]]]]
        self.check_no_game(thing)
        self.assertEqual(thing, ["move", 1, "a", [["b", ["end", [1, 1]]]]])
        self.check_no_game(thing)


def replaced_top(path, new):
    """The fraction around a path of DEEP with the new number, or None where none is around it."""
    around = DEEP
    for number in path[:-1]:
        around = around[number]
    return replaced(around, path[-1:], new) if is_ratio(around) else None


def index_path(way):
    """The indexes through the tuples that lead to the game at a way, in DEEP or in a chain."""
    path = ()
    for number in way:
        path = path + (-1, number, 1)
    return path


def slow_places(game, way=()):
    found = [(way, game)]
    if game[0] != "end":
        for number, branch in enumerate(game[-1]):
            found.extend(slow_places(branch[1], way + (number,)))
    return sorted(found, key=lambda place: place[0])


class Places(unittest.TestCase):
    def test_written_out(self):
        self.assertEqual(games.places_of(END), [((), END)])
        self.assertEqual(
            games.places_of(MOVE),
            [((), MOVE), ((0,), END), ((1,), DEAL), ((1, 0), END), ((1, 1), LEAF)],
        )

    def test_ways_of_the_deep_game(self):
        self.assertEqual(
            [way for way, game in games.places_of(DEEP)],
            [(), (0,), (0, 0), (0, 0, 0), (0, 0, 1), (0, 1), (1,), (1, 0), (1, 0, 0), (1, 1)],
        )

    def test_some_games(self):
        for game in SOME + [deal_of(64), move_of(6), chain(60)]:
            places = games.places_of(game)
            self.assertEqual(places, slow_places(game))
            ways = [way for way, there in places]
            self.assertEqual(ways, sorted(ways))
            self.assertEqual(ways[0], ())

    def test_kinds(self):
        places = games.places_of(DEEP)
        self.assertIs(type(places), list)
        for place in places:
            self.assertIs(type(place), tuple)
            self.assertEqual(len(place), 2)
            self.assertIs(type(place[0]), tuple)
            self.assertTrue(all(type(number) is int for number in place[0]))
            self.assertIs(games.is_game(place[1]), True)

    def test_branches_from_ten_on_are_sorted_as_numbers(self):
        self.assertEqual([way for way, game in games.places_of(deal_of(12))], [()] + [(number,) for number in range(12)])

    def test_like_branches_are_each_told(self):
        self.assertEqual(len(games.places_of(("deal", "d", ((HALF, DEAL), (HALF, DEAL))))), 7)

    def test_three_hundred_places(self):
        game = ("deal", "d", tuple([((1, 50), deal_of(5))] * 49))
        self.assertEqual(len(games.places_of(game)), 295)

    def test_the_list_told_is_the_askers_own(self):
        wanted = games.places_of(MOVE)
        told = games.places_of(MOVE)
        told.clear()
        self.assertEqual(games.places_of(MOVE), wanted)
        told = games.places_of(MOVE)
        told[0] = None
        told.append(3)
        self.assertEqual(games.places_of(MOVE), wanted)
        self.assertEqual(wanted, slow_places(MOVE))

    def test_the_game_stays_as_it_was(self):
        game = copy.deepcopy(DEEP)
        games.places_of(game)
        self.assertEqual(game, DEEP)


class AtWay(unittest.TestCase):
    def check_no_place(self, game, way):
        with self.assertRaises(NoPlace):
            games.at_way(game, way)

    def test_each_place(self):
        for game in SOME + [deal_of(64), chain(60)]:
            for way, there in slow_places(game):
                self.assertEqual(games.at_way(game, way), there)

    def test_written_out(self):
        self.assertEqual(games.at_way(MOVE, ()), MOVE)
        self.assertEqual(games.at_way(MOVE, (1, 1)), LEAF)
        self.assertEqual(games.at_way(DEEP, (0, 0, 1)), ("end", (1, 1)))

    def test_a_number_as_great_as_the_branches_are_many(self):
        for game in SOME:
            for way, there in slow_places(game):
                count = 0 if there[0] == "end" else len(there[-1])
                for number in [count, count + 1, 64, 10 ** 30]:
                    if number >= count:
                        self.check_no_place(game, way + (number,))

    def test_a_number_below_nought(self):
        for game in SOME:
            for way, there in slow_places(game):
                for number in [-1, -2, -(10 ** 30)]:
                    self.check_no_place(game, way + (number,))

    def test_one_more_behind_an_end(self):
        for game in SOME:
            for way, there in slow_places(game):
                if there[0] == "end":
                    self.check_no_place(game, way + (0,))
                    self.check_no_place(game, way + (1, 0))

    def test_wrong_ahead_and_right_behind(self):
        for way in [(2, 0), (-1, 0), (-2, 0), (0, 0), (1, 2), (1, -1), (1, 0, 0)]:
            self.check_no_place(MOVE, way)

    def test_a_long_way(self):
        self.check_no_place(chain(60), (0,) * 61)
        self.check_no_place(DEEP, (0,) * 300)


def slow_turned(game):
    if game[0] == "end":
        return ("end", (-game[1][0], game[1][1]))
    ways = tuple((lead, slow_turned(branch)) for lead, branch in game[-1])
    return game[:1] + ({1: 2, 2: 1}[game[1]], game[2], ways) if game[0] == "move" else game[:2] + (ways,)


class Turned(unittest.TestCase):
    def test_written_out(self):
        self.assertEqual(games.turned(END), ("end", (-3, 2)))
        self.assertEqual(games.turned(LEAF), LEAF)
        self.assertEqual(games.turned(DEAL), ("deal", "coin", ((HALF, ("end", (-3, 2))), (HALF, LEAF))))
        self.assertEqual(
            games.turned(MOVE),
            ("move", 2, "king", (("raise", ("end", (-3, 2))), ("fold", games.turned(DEAL)))),
        )

    def test_some_games(self):
        for game in SOME + [deal_of(64), move_of(6), chain(60), chain(200)]:
            told = games.turned(game)
            self.assertEqual(told, slow_turned(game))
            self.assertIs(games.is_game(told), True)
            self.assertEqual(games.turned(told), game)

    def test_the_places_are_the_same(self):
        for game in SOME:
            ways = [way for way, there in games.places_of(game)]
            self.assertEqual([way for way, there in games.places_of(games.turned(game))], ways)

    def test_shares_below_nought_keep_their_sign(self):
        game = ("deal", "d", (((-1, 2), END), ((0, 1), LEAF)))
        self.assertEqual(games.turned(game)[2][0], ((-1, 2), ("end", (-3, 2))))

    def test_the_game_stays_as_it_was_and_is_told_the_same_again(self):
        game = copy.deepcopy(DEEP)
        first = games.turned(game)
        self.assertEqual(game, DEEP)
        self.assertEqual(games.turned(game), first)


if __name__ == "__main__":
    unittest.main()
