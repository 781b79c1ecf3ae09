"""Games as texts: shown, and read again where the text has just the form in which games are shown."""

from hushduel.errors import NoText
from hushduel.games import is_formed
from hushduel.ratios import read_ratio, show_ratio

STOPS = " (),"
SIDES = {"1": 1, "2": 2}


def head_of(game):
    if game[0] == "deal":
        return "deal " + game[1] + "("
    return "move " + str(game[1]) + " " + game[2] + "("


def lead_of(game, lead):
    return show_ratio(lead) if game[0] == "deal" else lead


# Texts, with the games in between that are still to be shown.
def pieces_of(game):
    if game[0] == "end":
        return ["end " + show_ratio(game[1])]
    pieces = []
    before = head_of(game)
    for lead, branch in game[-1]:
        pieces.append(before + lead_of(game, lead) + " ")
        pieces.append(branch)
        before = ", "
    pieces.append(")")
    return pieces


# The last piece waiting comes next, so pieces wait in reverse.
def shown(game):
    done = []
    waiting = [game]
    while len(waiting) > 0:
        piece = waiting.pop()
        if isinstance(piece, str):
            done.append(piece)
        else:
            waiting.extend(list(reversed(pieces_of(piece))))
    return "".join(done)


class Reader:
    def __init__(self, text):
        self.text = text
        self.spot = 0

    def passes(self, piece):
        if not self.text.startswith(piece, self.spot):
            return False
        self.spot = self.spot + len(piece)
        return True

    def need(self, piece):
        if not self.passes(piece):
            raise NoText("the text has not the form of a game")

    def chunk(self):
        start = self.spot
        while self.spot < len(self.text) and self.text[self.spot] not in STOPS:
            self.spot = self.spot + 1
        return self.text[start:self.spot]


# A deal or a move whose branches are not all read yet.
class Opened:
    def __init__(self, head):
        self.head = head
        self.lead = None
        self.ways = []


def read_lead(reader, opened):
    chunk = reader.chunk()
    reader.need(" ")
    opened.lead = read_ratio(chunk) if opened.head[0] == "deal" else chunk


def read_side(reader):
    chunk = reader.chunk()
    if chunk not in SIDES:
        raise NoText("a side is 1 or 2")
    reader.need(" ")
    return SIDES[chunk]


def read_head(reader):
    if reader.passes("deal "):
        head = ("deal", reader.chunk())
    else:
        reader.need("move ")
        side = read_side(reader)
        head = ("move", side, reader.chunk())
    reader.need("(")
    return head


# An end is told; of another game the head is put to what is open, and None is told.
def begun(reader, waiting):
    if reader.passes("end "):
        return ("end", read_ratio(reader.chunk()))
    opened = Opened(read_head(reader))
    read_lead(reader, opened)
    waiting.append(opened)
    return None


# The game is a branch of what was opened last: that one is told where it ends here, else None.
def gone_on(reader, waiting, game):
    opened = waiting[-1]
    opened.ways.append((opened.lead, game))
    if reader.passes(", "):
        read_lead(reader, opened)
        return None
    reader.need(")")
    waiting.pop()
    closed = opened.head + (tuple(opened.ways),)
    # Names, unlike words and the number of branches are judged here, as of any game.
    if not is_formed(closed):
        raise NoText("the text tells what is no game")
    return closed


# A list of what is open, not a call within a call: a text may tell games nested as deep as it likes.
def read(text):
    if not isinstance(text, str):
        raise NoText("a game is read from a text")
    reader = Reader(text)
    waiting = []
    game = begun(reader, waiting)
    while len(waiting) > 0:
        if game is None:
            game = begun(reader, waiting)
        else:
            game = gone_on(reader, waiting, game)
    if reader.spot < len(text):
        raise NoText("something stands behind the game")
    return game
