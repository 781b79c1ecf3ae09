"""The refusals: one class for each, all of them a DuelError."""


class DuelError(ValueError):
    pass


class NoNumber(DuelError):
    pass


class NoText(DuelError):
    pass


class TooGreat(DuelError):
    pass


class NoPlan(DuelError):
    pass


class NoWord(DuelError):
    pass


class NoPlace(DuelError):
    pass


class NoName(DuelError):
    pass


class NoRow(DuelError):
    pass


# The way of the deal whose shares are wrong is kept, so that the asker can find it.
class NoShares(DuelError):
    def __init__(self, way):
        self.way = way


# The two ways show the fault together: one is the first place with the name seen, other the one that differs.
class Unlike(DuelError):
    def __init__(self, one, other):
        self.one = one
        self.other = other


class Forgets(DuelError):
    def __init__(self, one, other):
        self.one = one
        self.other = other
