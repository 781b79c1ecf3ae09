"""Plans as texts: shown in the table's order, and read again with the rows in whatever order."""

from hushduel.errors import NoText
from hushduel.games import is_name
from hushduel.looks import rows_of
from hushduel.plans import refuse_no_plan
from hushduel.ratios import read_ratio, show_ratio


def show_plan(game, side, plan):
    refuse_no_plan(game, side, plan)
    shown_rows = [" ".join([row[1]] + [show_ratio(share) for share in plan[row[1]]]) for row in rows_of(game, side)]
    return "; ".join(shown_rows)


def read_row(text):
    parts = text.split(" ")
    if not is_name(parts[0]) or len(parts) == 1:
        raise NoText(f"{text!r} is no name with fractions")
    return (parts[0], tuple([read_ratio(part) for part in parts[1:]]))


# A text without signs has no row at all; split would make one of it.
def read_rows(text):
    return [] if text == "" else [read_row(part) for part in text.split("; ")]


def read_plan(game, side, text):
    if not isinstance(text, str):
        raise NoText("a plan is read from a text")
    rows = read_rows(text)
    plan = dict(rows)
    if len(plan) < len(rows):
        raise NoText("a name stands there twice")
    refuse_no_plan(game, side, plan)
    return plan
