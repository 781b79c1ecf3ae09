"""Bouts: games whose stakes are changed, with the papers found last."""

from hushduel.balances import balance, between, is_balance
from hushduel.errors import NoPlace
from hushduel.games import at_way, with_ways


# The way is known to lead to an end.
def put_there(game, way, stake):
    if len(way) == 0:
        return ("end", stake)
    ways = list(game[-1])
    taken = ways[way[0]]
    ways[way[0]] = (taken[0], put_there(taken[1], way[1:], stake))
    return with_ways(game, ways)


def staked(game, way, stake):
    if at_way(game, way)[0] != "end":
        raise NoPlace(f"no end is at {way!r}")
    return put_there(game, way, stake)


class Bout:
    def __init__(self, game):
        found = balance(game)
        self.game = game
        self.last_papers = (found[1], found[2])

    def put(self, way, stake):
        self.game = staked(self.game, way, stake)

    def now(self):
        return self.game

    # The worth is not kept: other stakes may change it while the papers stay a balance.
    def worth(self):
        self.find_anew()
        return self.line()[0]

    # Copies, so that what the asker does with them does not reach the papers kept.
    def papers(self):
        self.find_anew()
        return (dict(self.last_papers[0]), dict(self.last_papers[1]))

    def line(self):
        return between(self.game, self.last_papers[0], self.last_papers[1])

    def find_anew(self):
        if not is_balance(self.game, self.last_papers[0], self.last_papers[1]):
            found = balance(self.game)
            self.last_papers = (found[1], found[2])
