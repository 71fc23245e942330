"""The moments at which works of known hours can begin, and how long all of them take."""

from hastebook.errors import NoRoom
from hastebook.needs import needed_works, order_of


def earliest(hours, needs):
    order = order_of(len(hours), needs)
    needed = needed_works(len(hours), needs)
    begins = [0 for work in order]
    for work in order:
        begins[work] = max([begins[first] + hours[first] for first in needed[work]], default=0)
    return begins


def length(hours, needs):
    return max(done_moments(earliest(hours, needs), hours), default=0)


def latest(hours, needs, end):
    if end < length(hours, needs):
        raise NoRoom("the works can't all be done by that end")
    order = order_of(len(hours), needs)
    needed = needed_works(len(hours), needs)
    limits = [end for work in order]
    begins = [end for work in order]
    # From the last work back, so that all that need a work have set its limit when it is met.
    for work in reversed(order):
        begins[work] = limits[work] - hours[work]
        for first in needed[work]:
            limits[first] = min(limits[first], begins[work])
    return begins


def spare(hours, needs, end):
    late_begins = latest(hours, needs, end)
    early_begins = earliest(hours, needs)
    return [late - early for late, early in zip(late_begins, early_begins)]


def longest(hours, needs):
    begins = earliest(hours, needs)
    if not begins:
        return []
    needed = needed_works(len(hours), needs)
    done = done_moments(begins, hours)
    way = [done.index(max(done))]
    # A work that begins later than 0 was held up by one that is done at that very moment.
    while begins[way[0]] > 0:
        way.insert(0, holding_up(needed[way[0]], done, begins[way[0]]))
    return way


def done_moments(begins, hours):
    return [begin + took for begin, took in zip(begins, hours)]


def holding_up(candidates, done, moment):
    return [work for work in candidates if done[work] == moment][0]
