"""Words taken out where shares of other words do as well whatever the other side does, and plans filled up again."""

from hushduel.answers import is_better
from hushduel.balances import balance, refuse_not_small
from hushduel.games import with_ways
from hushduel.looks import rows_of, table_of
from hushduel.mosts import row_with_word
from hushduel.plans import pure_shares, refuse_no_plan
from hushduel.ratios import NOUGHT, minus

HALF = (1, 2)
NOTHING = ("end", (0, 1))


def last_words(game, row):
    records = [other[3] for other in rows_of(game, row[0])]
    return [word for word in row[2] if not any([(row[1], word) in record for record in records])]


def taken_back(game):
    if game[0] == "end":
        return ("end", minus(NOUGHT, game[1]))
    return with_ways(game, [(lead, taken_back(branch)) for lead, branch in game[-1]])


# The move with the other words alone, each bringing half of what it brings less what the word brings.
def compared(move, word, others):
    branches = dict(move[3])
    back = taken_back(branches[word])
    return with_ways(move, [(other, ("deal", "half", ((HALF, branches[other]), (HALF, back)))) for other in others])


# The game in which the side chooses at the row's name alone, among the others, set against the word: on the way there
# it goes along with the record, and whatever does not lead there brings nothing.
def contest(place, row, word, others):
    if place[0] == "end":
        return NOTHING
    if place[0] == "move" and place[1] == row[0]:
        if place[2] == row[1]:
            return compared(place, word, others)
        along = [branch for each, branch in place[3] if (place[2], each) in row[3]]
        return contest(along[0], row, word, others) if len(along) > 0 else NOTHING
    return with_ways(place, [(lead, contest(branch, row, word, others)) for lead, branch in place[-1]])


# At names that the contest leaves away it does not matter what the plan does.
def plan_for_all(rows, plan):
    return dict([(row[1], plan.get(row[1], pure_shares(0, len(row[2])))) for row in rows])


# Shares that lose nothing to the word in the contest do as well as the word; else the other side has a plan there
# against which all others do worse.
def never_better(game, side, seen, word):
    row = row_with_word(game, side, seen, word)
    lasts = last_words(game, row)
    others = [each for each in lasts if each != word]
    if word not in lasts or len(others) == 0:
        return None
    refuse_not_small(game)
    found = balance(contest(game, row, word, others))
    if is_better(3 - side, found[0], NOUGHT):
        return ("sometimes", plan_for_all(rows_of(game, 3 - side), found[3 - side]))
    shares = dict(zip(others, found[side][seen]))
    return ("never", tuple([shares.get(each, NOUGHT) for each in row[2]]))


def without_word(game, side, seen, word):
    if game[0] == "end":
        return game
    ways = [(lead, without_word(branch, side, seen, word)) for lead, branch in game[-1]]
    if game[:3] == ("move", side, seen):
        ways = [way for way in ways if way[0] != word]
    return with_ways(game, ways)


# What is taken out of the game as it stands, told as in the list, or None.
def taken_out(game, side, seen, word):
    words = [row[2] for row in rows_of(game, side) if row[1] == seen]
    if len(words) == 0:
        return None
    found = never_better(game, side, seen, word)
    if found is None or found[0] == "sometimes":
        return None
    return (side, seen, word, [pair for pair in zip(words[0], found[1]) if pair[1] != NOUGHT])


def trimmed(game):
    refuse_not_small(game)
    left = game
    gone = []
    for row in table_of(game):
        for word in row[2]:
            out = taken_out(left, row[0], row[1], word)
            if out is not None:
                gone.append(out)
                left = without_word(left, row[0], row[1], word)
    return (left, gone)


# The shares for the words of a row of the whole game, of which those left have these.
def filled_shares(words, left, shares):
    by_word = dict(zip(left, shares))
    return tuple([by_word.get(word, NOUGHT) for word in words])


def filled(game, side, plan, gone):
    trim = game
    for each in gone:
        trim = without_word(trim, each[0], each[1], each[2])
    refuse_no_plan(trim, side, plan)
    out = [(each[1], each[2]) for each in gone if each[0] == side]
    result = {}
    for row in rows_of(game, side):
        left = [word for word in row[2] if (row[1], word) not in out]
        shares = plan.get(row[1], pure_shares(0, len(left)))
        result[row[1]] = filled_shares(row[2], left, shares)
    return result
