"""Games, plans and plain reckonings that several tests share; nothing here draws on the program."""

import itertools
from fractions import Fraction

LEAF = ("end", (0, 1))
HALF = (1, 2)
ONE = (1, 1)
WORDS = "abcdef"
# Whatever is no text, no list, no dict, no tuple of use.
STRANGE = [None, True, False, 0, 1, -3, (), (1, 2), [], ["a"], {1, 2}, frozenset("a"), b"a", object(), str, len, range(2)]


def pair(value):
    value = Fraction(value)
    return (value.numerator, value.denominator)


def end(stake):
    return ("end", pair(stake))


def deal(name, *ways):
    """A deal of ways, each a share and a game."""
    return ("deal", name, tuple((pair(share), game) for share, game in ways))


def evenly(name, *games):
    return deal(name, *[(Fraction(1, len(games)), game) for game in games])


def move(side, seen, **ways):
    return ("move", side, seen, tuple(ways.items()))


def walk(game, way=(), chance=Fraction(1), records=((), ())):
    """The places in order: (way, game there, chance of the deals on the way, both sides' records)."""
    yield way, game, chance, records
    if game[0] == "end":
        return
    for number, (lead, branch) in enumerate(game[-1]):
        if game[0] == "deal":
            yield from walk(branch, way + (number,), chance * Fraction(*lead), records)
        else:
            longer = list(records)
            longer[game[1] - 1] = longer[game[1] - 1] + ((game[2], lead),)
            yield from walk(branch, way + (number,), chance, tuple(longer))


def slow_table(game):
    rows = []
    for way, place, chance, records in walk(game):
        if place[0] == "move" and not any(row[:2] == place[1:3] for row in rows):
            rows.append((place[1], place[2], tuple(word for word, branch in place[3]), records[place[1] - 1]))
    return rows


def slow_rows(game, side):
    return [row for row in slow_table(game) if row[0] == side]


def words_of(game, side):
    return {row[1]: row[2] for row in slow_rows(game, side)}


def slow_weight(record, words, plan):
    product = Fraction(1)
    for seen, word in record:
        product *= Fraction(*plan[seen][words[seen].index(word)])
    return product


def slow_brings(game, one, two):
    """The sum over the ends, each by itself, of its stake times all shares on the way."""
    words = {1: words_of(game, 1), 2: words_of(game, 2)}
    result = Fraction(0)
    for way, place, chance, records in walk(game):
        if place[0] == "end":
            weights = slow_weight(records[0], words[1], one) * slow_weight(records[1], words[2], two)
            result += Fraction(*place[1]) * chance * weights
    return result


def pure(number, count):
    return tuple((1, 1) if other == number else (0, 1) for other in range(count))


def pure_plans(game, side):
    """All pure plans, the first word of each name first, later names changing first."""
    rows = slow_rows(game, side)
    choices = itertools.product(*[range(len(row[2])) for row in rows])
    return [{row[1]: pure(number, len(row[2])) for row, number in zip(rows, choice)} for choice in choices]


def slow_held(game, side, plan):
    """The least (side 1) or most (side 2) that a pure plan of the other side lets the plan bring."""
    if side == 1:
        return min(slow_brings(game, plan, other) for other in pure_plans(game, 2))
    return max(slow_brings(game, other, plan) for other in pure_plans(game, 1))


def some_shares(source, count):
    """Shares that come to 1, nought often among them."""
    while True:
        parts = [source.choice([0, 0, 1, 1, 2, 3, 7]) for step in range(count)]
        if sum(parts) > 0:
            return tuple(pair(Fraction(part, sum(parts))) for part in parts)


def a_plan(source, game, side):
    rows = slow_rows(game, side)
    source.shuffle(rows)
    return {row[1]: some_shares(source, len(row[2])) for row in rows}


class Maker:
    """Makes sound games: a name is used again only with the words and the record it had."""

    def __init__(self, source, stakes=(-3, -2, -1, 0, 0, 1, 2, 4, Fraction(1, 2), Fraction(-5, 3))):
        self.source = source
        self.stakes = stakes
        self.names = {}

    def row(self, side, record):
        known = self.names.setdefault((side, record), [])
        if not known or self.source.random() < 0.35:
            count = self.source.choice([1, 2, 2, 2, 3])
            words = self.source.sample(["a", "b", "bet", "fold", "0"], count)
            # Both sides use the same names, for these have nothing to do with one another.
            fresh = "n" + str(sum(len(each) for key, each in self.names.items() if key[0] == side))
            known.append((fresh, tuple(words)))
        return self.source.choice(known)

    def game(self, depth, records=((), ())):
        sort = self.source.choice(["end", "deal", "move", "move", "move"]) if depth > 0 else "end"
        if sort == "end":
            return end(self.source.choice(self.stakes))
        if sort == "deal":
            count = self.source.randint(1, 3)
            parts = [self.source.randint(1, 4) for step in range(count)]
            shares = [Fraction(part, sum(parts)) for part in parts]
            return deal(self.source.choice(["d", "n0"]), *[(share, self.game(depth - 1, records)) for share in shares])
        side = self.source.choice([1, 2])
        seen, words = self.row(side, records[side - 1])
        ways = []
        for word in words:
            longer = list(records)
            longer[side - 1] = longer[side - 1] + ((seen, word),)
            ways.append((word, self.game(depth - 1, tuple(longer))))
        return ("move", side, seen, tuple(ways))


def is_let_by(game):
    if len(list(itertools.islice(walk(game), 65))) > 64:
        return False
    rows = slow_table(game)
    return all(
        sum(row[0] == side for row in rows) <= 8 and sum(len(row[2]) for row in rows if row[0] == side) <= 24
        for side in (1, 2)
    )


def both_sums(game):
    ones, twos = slow_rows(game, 1), slow_rows(game, 2)
    return (len(ones) + sum(len(row[2]) for row in twos), len(twos) + sum(len(row[2]) for row in ones))


def is_small(game):
    return max(both_sums(game)) <= 7


def sound_games(source, count, depth, wanted=is_let_by):
    found = []
    while len(found) < count:
        game = Maker(source).game(depth)
        if is_let_by(game) and wanted(game):
            found.append(game)
    return found


def at_once(stakes):
    """Both sides choose at once: row by side 1, column by side 2."""
    rows = {WORDS[row]: {WORDS[place]: end(stake) for place, stake in enumerate(line)} for row, line in enumerate(stakes)}
    return move(1, "row", **{word: move(2, "place", **line) for word, line in rows.items()})


def ending(source, side, seen, count):
    return move(side, seen, **{word: end(source.randint(-9, 9)) for word in WORDS[:count]})


def names(source, first, second):
    """A game that deals first to whom it is to move: names with so many words each of side 1, then of side 2."""
    behind = [ending(source, 1, "n" + str(number), count) for number, count in enumerate(first)]
    behind += [ending(source, 2, "n" + str(number), count) for number, count in enumerate(second)]
    return evenly("d", *behind)


def crossed(source, first, second):
    """Side 1 sees one of its names, side 2 then one of its own, each pair of them dealt alike."""
    behind = []
    for number, count in enumerate(first):
        for other, width in enumerate(second):
            inner = {word: ending(source, 2, "t" + str(other), width) for word in WORDS[:count]}
            behind.append(move(1, "o" + str(number), **inner))
    return evenly("d", *behind)


# Two coins laid at once: the second side does not see what the first one laid.
PENNIES = move(
    1, "one",
    heads=move(2, "two", heads=end(1), tails=end(-1)),
    tails=move(2, "two", heads=end(-1), tails=end(1)),
)
# Side 1 alone sees its card, bets or passes; side 2, which sees the bet alone, calls or folds.
POKER = evenly(
    "card",
    move(1, "high", bet=move(2, "bet", call=end(2), fold=end(1)), stay=end(1)),
    move(1, "low", bet=move(2, "bet", call=end(-2), fold=end(1)), stay=end(-1)),
)
# Side 1 moves twice, and sees at its second move what side 2 did.
TWICE = move(
    1, "first",
    go=move(
        2, "reply",
        left=move(1, "second", up=end(3), down=end(-1)),
        right=move(1, "third", up=end(-2), down=end(5)),
    ),
    stay=end(Fraction(1, 2)),
)
# Neither side sees anything.
CHANCE = deal("die", (Fraction(1, 3), end(6)), (Fraction(2, 3), evenly("coin", end(-3), end(Fraction(1, 2)))))
LONE = move(1, "only", a=end(1), b=end(3), c=end(2))
LONE_TWO = evenly("coin", move(2, "only", a=end(1), b=end(-3)), move(2, "only", a=end(2), b=end(Fraction(9, 2))))
WRITTEN = [LEAF, PENNIES, POKER, TWICE, CHANCE, LONE, LONE_TWO]
FOUR_PENNIES = evenly("d", *[
    move(1, "one" + str(number), heads=move(2, "two" + str(number), heads=end(1), tails=end(-1)),
         tails=move(2, "two" + str(number), heads=end(-1), tails=end(1)))
    for number in range(4)
])
