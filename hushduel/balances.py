"""Balances: a worth and a plan for each side that holds it, sought in small games and judged in all."""

from hushduel.answers import held
from hushduel.errors import TooGreat
from hushduel.games import places_of
from hushduel.looks import count_words, rows_of
from hushduel.plans import plan_of_weights
from hushduel.ratios import NOUGHT, ONE, minus, plus, times, under
from hushduel.seeking import solve

MOST_OF_BOTH = 7


def refuse_not_small(game):
    ones = rows_of(game, 1)
    twos = rows_of(game, 2)
    if len(ones) + count_words(twos) > MOST_OF_BOTH or len(twos) + count_words(ones) > MOST_OF_BOTH:
        raise TooGreat("the game is not small")


def pairs_of(rows):
    found = []
    for row in rows:
        found.extend([(row[1], word) for word in row[2]])
    return found


def lowest_stake(game):
    least = NOUGHT
    for way, place in places_of(game):
        if place[0] == "end" and under(place[1], least):
            least = place[1]
    return least


# Puts to amounts, by both sides' last pairs (None where there is none), the ends' stakes above least times the shares
# of the deals on the way there.
def gather_amounts(place, share, lasts, least, amounts):
    if place[0] == "end":
        amounts[lasts] = plus(amounts.get(lasts, NOUGHT), times(share, minus(place[1], least)))
    elif place[0] == "deal":
        for part, branch in place[2]:
            gather_amounts(branch, times(share, part), lasts, least, amounts)
    else:
        for word, branch in place[3]:
            pair = (place[2], word)
            behind = (pair, lasts[1]) if place[1] == 1 else (lasts[0], pair)
            gather_amounts(branch, share, behind, least, amounts)


# 1 where the pair belongs to the row's name, -1 where the name comes straight behind the pair (None: behind no pair).
def tie(row, pair):
    last = row[3][-1] if len(row[3]) > 0 else None
    if last == pair:
        return minus(NOUGHT, ONE)
    return ONE if pair is not None and pair[0] == row[1] else NOUGHT


# The seeking's places are the weights of side 1's words, then what each name of side 2 is worth to side 1.
# Its rows are side 1's names, which give on no more weight than they have, then side 2's words,
# none of which leaves side 1 less than its name is worth. The prices of these are the weights of side 2's words.
# With no amount below nought more weight never hurts, so "no more" and "no less" do where "just" is meant.
def seeking_of(ones, twos, amounts):
    rows = []
    bounds = []
    for row in ones:
        rows.append([tie(row, pair) for pair in pairs_of(ones)] + [NOUGHT for other in twos])
        bounds.append(minus(NOUGHT, tie(row, None)))
    for pair in pairs_of(twos):
        given = [minus(NOUGHT, amounts.get((other, pair), NOUGHT)) for other in pairs_of(ones)]
        rows.append(given + [tie(row, pair) for row in twos])
        bounds.append(amounts.get((None, pair), NOUGHT))
    wish = [amounts.get((pair, None), NOUGHT) for pair in pairs_of(ones)]
    wish.extend([minus(NOUGHT, tie(row, None)) for row in twos])
    return (rows, bounds, wish)


def seeking_in(game, ones, twos):
    amounts = {}
    gather_amounts(game, ONE, (None, None), lowest_stake(game), amounts)
    return seeking_of(ones, twos, amounts)


# The weights stand in the order of the rows' pairs.
def plan_of_list(rows, weights):
    return plan_of_weights(rows, dict(zip(pairs_of(rows), weights)))


def balance(game):
    refuse_not_small(game)
    ones = rows_of(game, 1)
    twos = rows_of(game, 2)
    sought = seeking_in(game, ones, twos)
    found = solve(sought[0], sought[1], sought[2])
    one = plan_of_list(ones, found[1])
    two = plan_of_list(twos, found[2][len(ones):])
    return (held(game, 1, one), one, two)


def between(game, one, two):
    return (held(game, 1, one), held(game, 2, two))


def is_balance(game, one, two):
    both = between(game, one, two)
    return both[0] == both[1]
