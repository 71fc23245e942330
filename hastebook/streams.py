"""Streams: lists of an amount and, behind it, the works of a way; and what they are worth for an end."""

from hastebook.needs import is_way, order_of


def is_stream(many, needs, rows):
    # Asked only so that wrong needs are refused, whatever the rows.
    order_of(many, needs)
    return all([is_part(many, needs, row) for row in rows])


def through(many, rows):
    amounts = [0 for work in range(many)]
    for row in rows:
        for work in row[1:]:
            amounts[work] += row[0]
    return amounts


def worth(works, rows, end):
    amounts = through(len(works), rows)
    gained = sum([work_worth(work, amount) for work, amount in zip(works, amounts)])
    return gained - end * sum([row[0] for row in rows])


def is_part(many, needs, row):
    # No way has a work twice, so a list of more works than there are is none and need not be walked.
    if not row or len(row) > many + 1:
        return False
    return row[0] >= 1 and is_way(many, needs, row[1:])


def work_worth(work, amount):
    if amount <= work[2]:
        return amount * work[0]
    return work[2] * (work[0] - work[1]) + amount * work[1]
