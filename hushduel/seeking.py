"""Seekings: of all lists that fit the rows' bounds the one that is worth most, with what shows it.

The search goes from corner to corner of what fits. Rows and wishes are made whole first, and the numbers of a corner
are kept as whole tops over one bottom that all of them share: so nothing has to be brought to lowest terms on the way.
"""

from hushduel.errors import TooGreat
from hushduel.ratios import NOUGHT, ONE, common_divisor, lowest, plus, times, under

MOST_ROWS = 8
MOST_WISHED = 8


# The least number that makes all these fractions whole.
def scale_of(fractions):
    scale = 1
    for fraction in fractions:
        scale = scale * fraction[1] // common_divisor(scale, fraction[1])
    return scale


def made_whole(fractions, scale):
    return [fraction[0] * (scale // fraction[1]) for fraction in fractions]


# A line's columns: one for each place of the wish, then one for what each row leaves of its bound, then its amount.
class Corner:
    def __init__(self, rows, bounds, wishes):
        self.wide = len(wishes[0])
        self.scales = [scale_of(row + [bound]) for row, bound in zip(rows, bounds)]
        self.wish_scales = [scale_of(wish) for wish in wishes]
        self.lines = [self.first_line(number, rows[number], bounds[number]) for number in range(len(rows))]
        self.wish_lines = [self.first_wish_line(number, wish) for number, wish in enumerate(wishes)]
        self.bottom = 1
        # The column that each line tells the amount of; all other columns have nought.
        self.held_columns = [self.wide + number for number in range(len(rows))]

    def first_line(self, number, row, bound):
        rests = [1 if other == number else 0 for other in range(len(self.scales))]
        scale = self.scales[number]
        return made_whole(row, scale) + rests + made_whole([bound], scale)

    def first_wish_line(self, number, wish):
        whole = made_whole(wish, self.wish_scales[number])
        return [-each for each in whole] + [0 for scale in self.scales] + [0]

    # Bland's rule, here and in ends_ahead: the first column is always taken, so no corner comes back, and it ends.
    def helping_column(self, level):
        for column in range(self.wide + len(self.lines)):
            costs_nothing = all([line[column] == 0 for line in self.wish_lines[:level]])
            if costs_nothing and self.wish_lines[level][column] < 0:
                return column
        return None

    # The line whose amount is used up first as the column grows.
    def ending_line(self, column):
        found = None
        for number, line in enumerate(self.lines):
            if line[column] > 0 and (found is None or self.ends_ahead(number, found, column)):
                found = number
        return found

    def ends_ahead(self, number, other, column):
        here = self.lines[number][-1] * self.lines[other][column]
        there = self.lines[other][-1] * self.lines[number][column]
        if here == there:
            return self.held_columns[number] < self.held_columns[other]
        return here < there

    def turn_about(self, number, column):
        turned = self.lines[number]
        self.wish_lines = [self.cleared(line, turned, column) for line in self.wish_lines]
        self.lines = [self.cleared(line, turned, column) for line in self.lines]
        self.lines[number] = turned
        self.held_columns[number] = column
        self.bottom = turned[column]

    # All numbers here are minors of the first lines, so the former bottom divides them without a rest.
    def cleared(self, line, turned, column):
        by = turned[column]
        less = line[column]
        return [(each * by - less * there) // self.bottom for each, there in zip(line, turned)]

    # Goes on until no column helps (None is told) or one helps without end (that column is told).
    # Only columns that cost nothing of the wishes ahead of this one are taken, so these stay at their best.
    def climb(self, level):
        column = self.helping_column(level)
        while column is not None:
            number = self.ending_line(column)
            if number is None:
                return column
            self.turn_about(number, column)
            column = self.helping_column(level)
        return None

    def fit(self):
        return self.amounts([line[-1] for line in self.lines])

    # As much of the column as 1, and of the held ones what this calls for.
    def way_along(self, column):
        found = self.amounts([-line[column] for line in self.lines])
        if column < self.wide:
            found[column] = ONE
        return found

    def amounts(self, tops):
        found = [NOUGHT for column in range(self.wide)]
        for column, top in zip(self.held_columns, tops):
            if column < self.wide:
                found[column] = lowest(top, self.bottom)
        return found

    def prices(self, level):
        line = self.wish_lines[level]
        bottom = self.bottom * self.wish_scales[level]
        return [lowest(line[self.wide + number] * scale, bottom) for number, scale in enumerate(self.scales)]

    # The least lift by which no column that helps the second wish is worth what it costs of the first.
    def lift(self):
        found = NOUGHT
        for cost, gain in zip(self.wish_lines[0][:-1], self.wish_lines[1][:-1]):
            if gain < 0:
                needed = lowest(-gain * self.wish_scales[0], cost * self.wish_scales[1])
                if under(found, needed):
                    found = needed
        return found


def refuse_great_seeking(rows, wish):
    if len(rows) > MOST_ROWS:
        raise TooGreat("the seeking has too many rows")
    if len(wish) > MOST_WISHED:
        raise TooGreat("the wish is too long")


def solve(rows, bounds, wish):
    refuse_great_seeking(rows, wish)
    corner = Corner(rows, bounds, [wish])
    endless = corner.climb(0)
    if endless is not None:
        return ("endless", corner.fit(), corner.way_along(endless))
    return ("best", corner.fit(), corner.prices(0))


def solve_next(rows, bounds, wish, second):
    refuse_great_seeking(rows, wish)
    corner = Corner(rows, bounds, [wish, second])
    endless = corner.climb(0)
    if endless is not None:
        return ("endless", corner.fit(), corner.way_along(endless))
    prices = corner.prices(0)
    endless = corner.climb(1)
    if endless is not None:
        return ("endless next", corner.fit(), prices, corner.way_along(endless))
    lift = corner.lift()
    others = [plus(other, times(lift, price)) for other, price in zip(corner.prices(1), prices)]
    return ("best", corner.fit(), prices, others, lift)
