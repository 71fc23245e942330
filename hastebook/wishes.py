"""Wishes: the least end that a budget pays for, and the best end where each moment sooner earns a bonus."""

from hastebook.curves import corners
from hastebook.needs import order_of
from hastebook.nets import Net


def end_for(works, needs, budget):
    told = corners(works, needs)
    for ahead, behind in zip(told, told[1:]):
        if behind[1] > budget:
            return ahead[0] - (budget - ahead[1]) // step_between(ahead, behind)
    return told[-1][0]


def best_end(works, needs, bonus):
    told = corners(works, needs)
    best = least_sum(told, bonus)
    return min([corner[0] for corner in told if corner_sum(corner, bonus) == best])


def best_sum(works, needs, bonus):
    return least_sum(corners(works, needs), bonus)


def bonus_stream(works, needs, bonus):
    # Asked only so that wrong needs are refused, whatever the works and the bonus.
    order_of(len(works), needs)
    if not works:
        return []
    net = Net(works, needs, bonus)
    net.lead(bonus)
    return net.stream()


def step_between(ahead, behind):
    return (behind[1] - ahead[1]) // (ahead[0] - behind[0])


# Between two corners the sum rises or falls by like steps, so the least sum of all ends is that of a corner.
def least_sum(told, bonus):
    return min([corner_sum(corner, bonus) for corner in told])


def corner_sum(corner, bonus):
    return corner[1] + bonus * corner[0]
