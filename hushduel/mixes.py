"""Mixes: weighted lists of pure plans, made into one plan, and a plan spread out as a mix."""

from hushduel.errors import NoPlan, TooGreat
from hushduel.games import is_pair
from hushduel.looks import rows_of
from hushduel.plans import are_full_shares, is_plan_for, plan_of_weights, pure_shares, refuse_no_plan, weights_for
from hushduel.ratios import NOUGHT, ONE, plus, times

MOST_SPREAD = 64


# Shares from nought on that come to 1 are all 0 or 1 where one of them is 1.
def is_pure_plan_for(rows, thing):
    return is_plan_for(rows, thing) and all([ONE in thing[row[1]] for row in rows])


def is_mix_for(rows, thing):
    if not isinstance(thing, list) or not all([is_pair(each) for each in thing]):
        return False
    if not are_full_shares(tuple([weight for weight, plan in thing]), len(thing)):
        return False
    return all([is_pure_plan_for(rows, plan) for weight, plan in thing])


# A pure plan gives 1 to the pairs that it goes along with, and nought to all others.
def mixed_weights(rows, mix):
    weights = {}
    for weight, plan in mix:
        for pair, share in weights_for(rows, plan).items():
            weights[pair] = plus(weights.get(pair, NOUGHT), times(weight, share))
    return weights


# The plans of a mix that go along with a record are those that go along with it and one of the words there.
def mixed(game, side, mix):
    rows = rows_of(game, side)
    if not is_mix_for(rows, mix):
        raise NoPlan(f"this is no mix of side {side}")
    return plan_of_weights(rows, mixed_weights(rows, mix))


def count_spread(plan):
    count = 1
    for shares in plan.values():
        count = count * len([share for share in shares if share != NOUGHT])
    return count


# Each plan of the mix goes on with each word that has a share, so a later name changes first.
def with_name(mix, seen, shares):
    longer = []
    for weight, plan in mix:
        for number, share in enumerate(shares):
            if share != NOUGHT:
                more = dict(plan)
                more[seen] = pure_shares(number, len(shares))
                longer.append((times(weight, share), more))
    return longer


def spread(game, side, plan):
    refuse_no_plan(game, side, plan)
    if count_spread(plan) > MOST_SPREAD:
        raise TooGreat("the plan would be spread over too many")
    mix = [(ONE, {})]
    for row in rows_of(game, side):
        mix = with_name(mix, row[1], plan[row[1]])
    return mix
