"""The looker: whether a game is too great or not sound, and the table of a sound one."""

from hushduel.errors import Forgets, NoShares, TooGreat, Unlike
from hushduel.games import branches_of, places_of
from hushduel.ratios import NOUGHT, ONE, total, under

MOST_PLACES = 64
MOST_BRANCHES = 12
MOST_NAMES = 8
MOST_WORDS_SEEN = 24
GREATEST_TOP = 999999999999
GREATEST_BOTTOM = 999


def words_at(move):
    return tuple([word for word, branch in move[3]])


# Both sides' records behind one branch of a place, from those at the place.
def records_behind(place, records, number):
    if place[0] != "move":
        return records
    pair = (place[2], place[3][number][0])
    if place[1] == 1:
        return (records[0] + (pair,), records[1])
    return (records[0], records[1] + (pair,))


# Places come after the one they lie behind, so the records there are known by then.
def places_with_records(game):
    known = {(): ((), ())}
    found = []
    for way, place in places_of(game):
        found.append((way, place, known[way]))
        for number in range(len(branches_of(place))):
            known[way + (number,)] = records_behind(place, known[way], number)
    return found


# The table's row of a move, if it is the first place with its name.
def row_at(move, records):
    return (move[1], move[2], words_at(move), records[move[1] - 1])


# Of a game that is not sound too: the first places alone count.
def table_of(game):
    rows = {}
    for way, place, records in places_with_records(game):
        if place[0] == "move":
            rows.setdefault((place[1], place[2]), row_at(place, records))
    return list(rows.values())


def rows_of(game, side):
    return [row for row in table_of(game) if row[0] == side]


def count_words(rows):
    return sum([len(row[2]) for row in rows])


def fractions_at(place):
    if place[0] == "end":
        return [place[1]]
    if place[0] == "deal":
        return [share for share, branch in place[2]]
    return []


def is_great(fraction):
    return abs(fraction[0]) > GREATEST_TOP or fraction[1] > GREATEST_BOTTOM


def refuse_great_places(game):
    places = places_of(game)
    if len(places) > MOST_PLACES:
        raise TooGreat("the game has too many places")
    if any([len(way) > MOST_BRANCHES for way, place in places]):
        raise TooGreat("a way of the game is too long")


def refuse_great_table(game):
    for side in (1, 2):
        rows = rows_of(game, side)
        if len(rows) > MOST_NAMES:
            raise TooGreat("a side sees too many names")
        if count_words(rows) > MOST_WORDS_SEEN:
            raise TooGreat("a side has too many words")


# All that makes a game too great but its fractions.
def refuse_great_shape(game):
    refuse_great_places(game)
    refuse_great_table(game)


def refuse_great_fractions(game):
    for way, place in places_of(game):
        if any([is_great(fraction) for fraction in fractions_at(place)]):
            raise TooGreat("a fraction of the game is too great")


def are_shares(shares):
    return all([under(NOUGHT, share) for share in shares]) and total(shares) == ONE


# Two moves with one name have to be alike in the words first, then in the record.
def refuse_other_row(way, row, first_way, first_row):
    if row[2] != first_row[2]:
        raise Unlike(first_way, way)
    if row[3] != first_row[3]:
        raise Forgets(first_way, way)


def refuse_unsound(game):
    firsts = {}
    for way, place, records in places_with_records(game):
        if place[0] == "deal" and not are_shares(fractions_at(place)):
            raise NoShares(way)
        if place[0] == "move":
            row = row_at(place, records)
            first = firsts.setdefault((place[1], place[2]), (way, row))
            refuse_other_row(way, row, first[0], first[1])


def look(game):
    refuse_great_shape(game)
    refuse_great_fractions(game)
    refuse_unsound(game)
    return table_of(game)
