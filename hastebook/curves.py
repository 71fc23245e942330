"""The curve of the least prices for all ends: its corners, and what it tells of one end."""

from hastebook.haste import free_end, least_end, stream_at
from hastebook.nets import Net
from hastebook.streams import worth


def corners(works, needs):
    last = least_end(works, needs)
    end = free_end(works, needs)
    price = 0
    found = [[end, price]]
    net = Net(works, needs)
    while end > last:
        # What an end a moment sooner asks for, that is asked for down to the next corner.
        net.fill(end - 1)
        sooner = net.open_length()
        price += net.amount() * (end - sooner)
        end = sooner
        found.append([end, price])
    return found


def price_at(works, needs, end):
    if end < least_end(works, needs):
        return None
    return worth(works, stream_at(works, needs, end), end)


def step_at(works, needs, end):
    if end <= least_end(works, needs):
        return None
    return price_at(works, needs, end - 1) - price_at(works, needs, end)
