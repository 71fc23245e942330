"""Plans: a list [begin, hours] for each work [usual, least, price], and what they cost."""

from hastebook.needs import order_of


def keeps(works, needs, end, plan):
    # Asked only so that wrong needs are refused, whatever else is wrong.
    order_of(len(works), needs)
    if end < 0 or len(plan) != len(works):
        return False
    if not all([row_fits(work, row, end) for work, row in zip(works, plan)]):
        return False
    return all([plan[second][0] >= done_at(plan[first]) for first, second in needs])


def price_of(works, plan):
    return sum([work[2] * (work[0] - row[1]) for work, row in zip(works, plan)])


def row_fits(work, row, end):
    if len(row) != 2:
        return False
    return row[0] >= 0 and work[1] <= row[1] <= work[0] and done_at(row) <= end


def done_at(row):
    return row[0] + row[1]
