"""Needs: a list of lists [a, b], work b may begin only when work a is done."""

from hastebook.errors import NoOrder


def order_of(many, needs):
    needed = needed_works(many, needs)
    order = []
    while len(order) < many:
        order.append(least_ready(needed, order))
    return order


def is_way(many, needs, some):
    if not some or not all([is_work(many, number) for number in some]):
        return False
    return all([list(step) in needs for step in zip(some, some[1:])])


def is_work(many, number):
    return 0 <= number < many


# Only the numbers are looked at here: needs that run in a ring are found by order_of alone.
def needed_works(many, needs):
    needed = [[] for work in range(many)]
    for first, second in needs:
        if not is_work(many, first) or not is_work(many, second):
            raise NoOrder("a need names a number that is no work")
        if first not in needed[second]:
            needed[second].append(first)
    return needed


def least_ready(needed, told):
    for work in range(len(needed)):
        if work not in told and all([first in told for first in needed[work]]):
            return work
    raise NoOrder("a work would have to be done ahead of itself")
