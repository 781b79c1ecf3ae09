"""The most of a word: the greatest weight that a plan of its side that is in a balance gives to it."""

from hushduel.balances import pairs_of, plan_of_list, refuse_not_small, seeking_in
from hushduel.errors import NoWord
from hushduel.games import turned
from hushduel.looks import rows_of
from hushduel.plans import weights_for
from hushduel.ratios import NOUGHT, ONE
from hushduel.seeking import solve_next


# The row of the table at which the side has the word.
def row_with_word(game, side, seen, word):
    for row in rows_of(game, side):
        if row[1] == seen and word in row[2]:
            return row
    raise NoWord(f"side {side} has no word {word!r} at {seen!r}")


# Lists that are best for the first wish are balances, so the second wish, the weight of the word, is sought among
# these. What shows its outcome is lift times weights of the other side, some perhaps too great: as plans they come out
# no greater, and with no amount below nought that lets side 1 have no more.
def most_of_one(game, pair):
    refuse_not_small(game)
    ones = rows_of(game, 1)
    twos = rows_of(game, 2)
    sought = seeking_in(game, ones, twos)
    second = [ONE if each == pair else NOUGHT for each in pairs_of(ones)] + [NOUGHT for row in twos]
    found = solve_next(sought[0], sought[1], sought[2], second)
    plan = plan_of_list(ones, found[1])
    other = plan_of_list(twos, found[3][len(ones):])
    return (weights_for(ones, plan)[pair], plan, found[4], other)


def most(game, side, seen, word):
    row_with_word(game, side, seen, word)
    return most_of_one(game if side == 1 else turned(game), (seen, word))
