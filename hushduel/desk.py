"""The desk: games kept by names, and rows of words that make, change and ask them."""

from hushduel.answers import best_answer, held
from hushduel.balances import balance
from hushduel.bouts import staked
from hushduel.errors import NoName, NoRow
from hushduel.folds import folded
from hushduel.games import is_name, turned
from hushduel.keens import gain, keener
from hushduel.looks import look, rows_of
from hushduel.mosts import most
from hushduel.notes import read_plan, show_plan
from hushduel.ratios import FIGURES, read_ratio, show_ratio
from hushduel.texts import read, shown
from hushduel.trims import trimmed

# What the words behind the first one are, by the first one: "new" a name, "old" a name by which a game stands.
# A "text" and a "plan" are all that follows, blanks too.
ROWS = {
    "game": ("new", "text"),
    "fold": ("new", "old"),
    "trim": ("new", "old"),
    "turn": ("new", "old"),
    "keen": ("new", "old", "side", "word"),
    "stake": ("new", "old", "way", "fraction"),
    "drop": ("old",),
    "show": ("old",),
    "worth": ("old",),
    "plan": ("old", "side"),
    "holds": ("old", "side", "plan"),
    "best": ("old", "side", "plan"),
    "most": ("old", "side", "word", "word"),
    "gain": ("old", "side", "word"),
    "sees": ("old", "side"),
}


# The row's words, as many as rows with its first word have.
def words_of_row(row):
    if not isinstance(row, str):
        raise NoRow("a row is a text")
    kinds = ROWS.get(row.partition(" ")[0], ())
    words = row.split(" ", len(kinds)) if "text" in kinds or "plan" in kinds else row.split(" ")
    if len(kinds) == 0 or len(words) != len(kinds) + 1:
        raise NoRow(f"{row!r} is no row of the desk")
    return words


def name_told(word):
    if not is_name(word):
        raise NoName(f"{word!r} is no name")
    return word


def side_told(word):
    if word not in ("1", "2"):
        raise NoRow(f"{word!r} is no side")
    return int(word)


def is_step(word):
    if word == "0":
        return True
    return 1 <= len(word) <= 2 and word[0] != "0" and all([sign in FIGURES for sign in word])


def way_told(word):
    if word == "-":
        return ()
    steps = word.split(".")
    if not all([is_step(step) for step in steps]):
        raise NoRow(f"{word!r} is no way")
    return tuple([int(step) for step in steps])


# The game that stands by the new name then; told is what the words behind the first one tell.
def made(first, told):
    if first == "fold":
        return folded(told[1])
    if first == "trim":
        return trimmed(told[1])[0]
    if first == "turn":
        return turned(told[1])
    if first == "keen":
        return keener(told[1], told[2], told[3])[0]
    result = told[1] if first == "game" else staked(told[1], told[2], told[3])
    look(result)
    return result


def answered(first, told):
    game = told[0]
    if first == "show":
        return shown(game)
    if first == "worth":
        return show_ratio(balance(game)[0])
    side = told[1]
    if first == "plan":
        return show_plan(game, side, balance(game)[side])
    if first == "holds":
        return show_ratio(held(game, side, told[2]))
    if first == "best":
        return show_plan(game, 3 - side, best_answer(game, side, told[2])[1])
    if first == "most":
        return show_ratio(most(game, side, told[2], told[3])[0])
    if first == "gain":
        return show_ratio(gain(game, side, told[2]))
    return " ".join([row[1] for row in rows_of(game, side)])


class Desk:
    def __init__(self):
        self.standing = {}

    # Nothing is kept before all is known, so what is refused changes nothing.
    def say(self, row):
        words = words_of_row(row)
        kinds = ROWS[words[0]]
        told = []
        for kind, word in zip(kinds, words[1:]):
            told.append(self.read_word(kind, word, told))
        if kinds[0] == "new":
            self.standing[told[0]] = made(words[0], told)
        elif words[0] == "drop":
            self.standing.pop(words[1])
        else:
            return answered(words[0], told)
        return "ok"

    # A plan is one of the side and the game that stand ahead of it in the row.
    def read_word(self, kind, word, told):
        if kind == "new":
            return name_told(word)
        if kind == "old":
            return self.game_by(word)
        if kind == "side":
            return side_told(word)
        if kind == "way":
            return way_told(word)
        if kind == "fraction":
            return read_ratio(word)
        if kind == "text":
            return read(word)
        if kind == "plan":
            return read_plan(told[0], told[1], word)
        return word

    def game_by(self, word):
        if name_told(word) not in self.standing:
            raise NoName(f"no game stands by {word!r}")
        return self.standing[word]
