"""Games: ends, deals and moves as tuples within one another, and the ways through them."""

from hushduel.errors import NoPlace
from hushduel.ratios import NOUGHT, is_ratio, is_whole, minus

NAME_SIGNS = "abcdefghijklmnopqrstuvwxyz0123456789"
MOST_SIGNS = 8
MOST_DEALT = 64
MOST_WORDS = 6


def is_name(thing):
    if not isinstance(thing, str):
        return False
    return 1 <= len(thing) <= MOST_SIGNS and all([sign in NAME_SIGNS for sign in thing])


def is_pair(thing):
    return isinstance(thing, tuple) and len(thing) == 2


def are_pairs(thing, most):
    return isinstance(thing, tuple) and 1 <= len(thing) <= most and all([is_pair(each) for each in thing])


def is_end(thing):
    return len(thing) == 2 and is_ratio(thing[1])


def is_deal(thing):
    if len(thing) != 3 or not is_name(thing[1]) or not are_pairs(thing[2], MOST_DEALT):
        return False
    return all([is_ratio(share) for share, branch in thing[2]])


def is_move(thing):
    if len(thing) != 4 or not is_whole(thing[1]) or thing[1] not in (1, 2):
        return False
    if not is_name(thing[2]) or not are_pairs(thing[3], MOST_WORDS):
        return False
    words = [word for word, branch in thing[3]]
    return all([is_name(word) for word in words]) and len(set(words)) == len(words)


# Whether the thing has the form of a game, whatever stands behind its branches.
def is_formed(thing):
    if not isinstance(thing, tuple) or len(thing) == 0 or not isinstance(thing[0], str):
        return False
    if thing[0] == "end":
        return is_end(thing)
    if thing[0] == "deal":
        return is_deal(thing)
    return thing[0] == "move" and is_move(thing)


def branches_of(game):
    if game[0] == "end":
        return []
    return [branch for lead, branch in game[-1]]


# The deal or move with other branches.
def with_ways(game, ways):
    return game[:-1] + (tuple(ways),)


# A list of what is still to be judged, not a call within a call: a thing may be nested as deep as it likes.
def is_game(thing):
    waiting = [thing]
    while len(waiting) > 0:
        each = waiting.pop()
        if not is_formed(each):
            return False
        waiting.extend(branches_of(each))
    return True


# The last one waiting comes next, so branches wait in reverse; thus the ways come as Python sorts them.
def places_of(game):
    places = []
    waiting = [((), game)]
    while len(waiting) > 0:
        place = waiting.pop()
        places.append(place)
        behind = [(place[0] + (number,), branch) for number, branch in enumerate(branches_of(place[1]))]
        waiting.extend(list(reversed(behind)))
    return places


def at_way(game, way):
    here = game
    for number in way:
        branches = branches_of(here)
        # A number below nought would count from the last branch in Python.
        if number < 0 or number >= len(branches):
            raise NoPlace(f"the game has no place at {way!r}")
        here = branches[number]
    return here


def turned(game):
    if game[0] == "end":
        return ("end", minus(NOUGHT, game[1]))
    ways = tuple([(lead, turned(branch)) for lead, branch in game[-1]])
    if game[0] == "deal":
        return ("deal", game[1], ways)
    return ("move", 3 - game[1], game[2], ways)
