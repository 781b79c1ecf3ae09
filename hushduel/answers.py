"""Best answers: the pure plan of one side that does best against a plan of the other, and what a plan holds."""

from hushduel.looks import rows_of
from hushduel.plans import comes_of, pure_shares, refuse_no_plan, shared_branches
from hushduel.ratios import ONE, times, total, under


# Puts to found, by the name seen, the answering side's places with the shares of deals and plan on the way there.
def gather_reached(place, reach, plans, found):
    if place[0] == "end":
        return
    if place[0] == "move" and place[1] not in plans:
        found.setdefault(place[2], []).append((reach, place))
        for word, branch in place[3]:
            gather_reached(branch, reach, plans, found)
    else:
        for share, branch in shared_branches(place, plans):
            gather_reached(branch, times(reach, share), plans, found)


def word_brings(reached, number, plans):
    return total([times(reach, comes_of(place[3][number][1], plans)) for reach, place in reached])


def is_better(answering, first, second):
    return under(second, first) if answering == 1 else under(first, second)


def first_best(answering, brought):
    best = 0
    for number, each in enumerate(brought):
        if is_better(answering, each, brought[best]):
            best = number
    return best


# Names behind a word have longer records: they are answered first, so that it is known what comes of them.
def best_answer(game, side, plan):
    refuse_no_plan(game, side, plan)
    answering = 3 - side
    reached = {}
    gather_reached(game, ONE, {side: plan}, reached)
    answer = {}
    brought = {}
    plans = {side: plan, answering: answer}
    for row in sorted(rows_of(game, answering), key=lambda each: len(each[3]), reverse=True):
        seen = row[1]
        brought[seen] = tuple([word_brings(reached[seen], number, plans) for number in range(len(row[2]))])
        answer[seen] = pure_shares(first_best(answering, brought[seen]), len(row[2]))
    return (comes_of(game, plans), answer, brought)


def held(game, side, plan):
    return best_answer(game, side, plan)[0]
