"""Hastening: for an end the cheapest plan, the stream that tells why none costs less, or a way too long for it."""

from hastebook.moments import length, longest
from hastebook.nets import Net, begin_place, done_place


def least_end(works, needs):
    return length(least_hours(works), needs)


def free_end(works, needs):
    return length([free_hours(work) for work in works], needs)


def plan_at(works, needs, end):
    if end < least_end(works, needs):
        return None
    moments = filled_net(works, needs, end).moments(end)
    return [plan_row(number, work, moments) for number, work in enumerate(works)]


def stream_at(works, needs, end):
    if end < least_end(works, needs):
        return None
    return filled_net(works, needs, end).stream()


def too_long(works, needs, end):
    if end >= least_end(works, needs):
        return None
    return longest(least_hours(works), needs)


def least_hours(works):
    return [work[1] for work in works]


def free_hours(work):
    return work[1] if work[2] == 0 else work[0]


def filled_net(works, needs, end):
    net = Net(works, needs)
    net.fill(end)
    return net


def plan_row(number, work, moments):
    begin = moments[begin_place(number)]
    # A work that has more time than its usual hours is done sooner, and not drawn out.
    return [begin, min(work[0], moments[done_place(number)] - begin)]
