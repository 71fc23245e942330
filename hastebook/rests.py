"""Rests: what is left of works and needs at a moment of a plan, and what was spent by then."""

from hastebook.needs import order_of
from hastebook.plans import done_at, price_of


def rest_of(works, needs, plan, moment):
    # Asked only so that wrong needs are refused, whatever the plan.
    order_of(len(works), needs)
    left_works = [rest_of_work(work, row, moment) for work, row in zip(works, plan)]
    left_needs = [list(need) for need in needs if not is_done(plan[need[0]], moment)]
    return (left_works, left_needs)


def spent(works, plan, moment):
    met = [[work, row] for work, row in zip(works, plan) if not waits(row, moment)]
    return price_of([work for work, row in met], [row for work, row in met])


def rest_of_work(work, row, moment):
    if waits(row, moment):
        return list(work)
    if is_done(row, moment):
        return [0, 0, 0]
    left = done_at(row) - moment
    return [left, left, 0]


def is_done(row, moment):
    return done_at(row) <= moment


# A work without hours that would begin at the very moment is done, and doesn't wait.
def waits(row, moment):
    return row[0] >= moment and not is_done(row, moment)
