"""Plans: what a side does at each name that it sees, the weights of its words, and what two plans bring."""

from hushduel.errors import NoPlan
from hushduel.looks import rows_of
from hushduel.ratios import NOUGHT, ONE, is_ratio, over, plus, times, total, under


# Whether the thing is a tuple of so many fractions from nought on that come to 1.
def are_full_shares(thing, count):
    if not isinstance(thing, tuple) or len(thing) != count:
        return False
    if not all([is_ratio(share) and not under(share, NOUGHT) for share in thing]):
        return False
    return total(list(thing)) == ONE


# Of the rows of one side's table: whether the thing tells shares for just these.
def is_plan_for(rows, thing):
    if not isinstance(thing, dict) or len(thing) != len(rows):
        return False
    return all([row[1] in thing and are_full_shares(thing[row[1]], len(row[2])) for row in rows])


def is_plan(game, side, thing):
    return is_plan_for(rows_of(game, side), thing)


def refuse_no_plan(game, side, thing):
    if not is_plan(game, side, thing):
        raise NoPlan(f"this is no plan of side {side}")


# A dict from each (seen, word) of the rows to the share that the plan has there.
def shares_by_pair(rows, plan):
    shares = {}
    for row in rows:
        for word, share in zip(row[2], plan[row[1]]):
            shares[(row[1], word)] = share
    return shares


def weights_for(rows, plan):
    shares = shares_by_pair(rows, plan)
    weights = {}
    for row in rows:
        before = ONE
        for pair in row[3]:
            before = times(before, shares[pair])
        for word in row[2]:
            weights[(row[1], word)] = times(before, shares[(row[1], word)])
    return weights


def weights_of(game, side, plan):
    refuse_no_plan(game, side, plan)
    return weights_for(rows_of(game, side), plan)


def pure_shares(taken, count):
    return tuple([ONE if number == taken else NOUGHT for number in range(count)])


# The words of a name get their parts of what is given to all of them; where that is nought, the first one gets all.
def plan_of_weights(rows, weights):
    plan = {}
    for row in rows:
        given = [weights[(row[1], word)] for word in row[2]]
        whole = total(given)
        if whole == NOUGHT:
            plan[row[1]] = pure_shares(0, len(row[2]))
        else:
            plan[row[1]] = tuple([over(weight, whole) for weight in given])
    return plan


# The branches of a deal or a move with their shares, a move's by its side's plan.
def shared_branches(place, plans):
    if place[0] == "deal":
        return list(place[2])
    shares = plans[place[1]][place[2]]
    return [(share, way[1]) for share, way in zip(shares, place[3])]


def comes_of(place, plans):
    if place[0] == "end":
        return place[1]
    result = NOUGHT
    for share, branch in shared_branches(place, plans):
        # What has no share adds nothing, however much there is to reckon behind it.
        if share != NOUGHT:
            result = plus(result, times(share, comes_of(branch, plans)))
    return result


def brings(game, one, two):
    refuse_no_plan(game, 1, one)
    refuse_no_plan(game, 2, two)
    return comes_of(game, {1: one, 2: two})
