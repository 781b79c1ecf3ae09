"""Seeing more: games in which a side sees, too, how deals of a name came out, and what that gains it."""

from hushduel.balances import balance
from hushduel.errors import NoPlan
from hushduel.games import with_ways
from hushduel.looks import refuse_great_shape
from hushduel.plans import are_full_shares
from hushduel.ratios import minus


# What the side comes to know as this branch of the place is taken.
def learned(place, side, name, number):
    if place[0] == "deal":
        return (number,) if place[1] == name else ()
    return ((place[2], place[3][number][0]),) if place[1] == side else ()


# Puts to fresh the new name of each name seen with what is known there. A place comes ahead of those behind it, so the
# new names stand in the order of their first places.
def sharpened(place, side, name, known, fresh):
    if place[0] == "end":
        return place
    result = place
    if place[0] == "move" and place[1] == side:
        new = fresh.setdefault((place[2], known), "s" + str(len(fresh) + 1))
        result = ("move", side, new, place[3])
    ways = []
    for number, way in enumerate(place[-1]):
        more = known + learned(place, side, name, number)
        ways.append((way[0], sharpened(way[1], side, name, more, fresh)))
    return with_ways(result, ways)


def keener(game, side, name):
    fresh = {}
    result = sharpened(game, side, name, (), fresh)
    refuse_great_shape(result)
    return (result, dict([(new, key[0]) for key, new in fresh.items()]))


# Without the game it is not known how many words a name has; all else of a plan is.
def is_plan_by(names, thing):
    if not isinstance(thing, dict) or set(thing) != set(list(names.values())):
        return False
    return all([isinstance(shares, tuple) and are_full_shares(shares, len(shares)) for shares in thing.values()])


def pulled(plan, names):
    if not is_plan_by(names, plan):
        raise NoPlan("this is no plan for the names that the new ones had")
    return dict([(new, plan[old]) for new, old in names.items()])


def gain(game, side, name):
    keen = balance(keener(game, side, name)[0])[0]
    plain = balance(game)[0]
    return minus(keen, plain) if side == 1 else minus(plain, keen)
