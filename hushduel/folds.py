"""Folding: deals within deals made one, and their ways with equal games put together."""

from hushduel.games import with_ways
from hushduel.ratios import NOUGHT, plus, times


# A way to a deal gives way to that deal's own ways.
def opened_out(share, branch):
    if branch[0] != "deal":
        return [(share, branch)]
    return [(times(share, part), inner) for part, inner in branch[2]]


# The shares by their games: a game keeps the place at which it came first.
def put_together(ways):
    shares = {}
    for share, branch in ways:
        shares[branch] = plus(shares.get(branch, NOUGHT), share)
    return [(share, branch) for branch, share in shares.items()]


def folded_deal(deal):
    ways = []
    for share, branch in deal[2]:
        ways.extend(opened_out(share, branch))
    ways = put_together(ways)
    return ways[0][1] if len(ways) == 1 else with_ways(deal, ways)


# The branches come first: so a deal within them has no deal straight behind it any more.
def folded(game):
    if game[0] == "end":
        return game
    result = with_ways(game, [(lead, folded(branch)) for lead, branch in game[-1]])
    return folded_deal(result) if game[0] == "deal" else result
