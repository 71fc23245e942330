"""Point 3, its last sentence: lots of works beside one another and behind one another."""

import itertools

from hastebook.curves import corners, price_at
from hastebook.haste import free_end, least_end
from tests.helper import SEVENTY, THIRTY, BookCase, made_works

LOTS = (
    ([], []),
    ([[4, 1, 2]], []),
    ([[3, 3, 1]], []),
    ([[5, 0, 0]], []),
    ([[4, 2, 3], [5, 5, 0], [6, 0, 10]], [[0, 1], [0, 2]]),
    ([[3, 0, 2], [2, 1, 4], [3, 1, 1]], [[2, 0], [2, 1], [2, 0]]),
    ([[2, 0, 5], [4, 1, 1], [3, 2, 2]], []),
)

GREAT_LOTS = (
    ([[THIRTY, 0, THIRTY], [THIRTY, THIRTY - 1, 1]], [[0, 1]]),
    (made_works(4, 3, THIRTY, THIRTY), [[0, 1], [0, 2], [1, 3]]),
    (made_works(4, 4, THIRTY, 9), [[3, 1], [3, 0], [2, 0]]),
    (made_works(3, 8, 50, THIRTY), []),
    ([[THIRTY - work, work * THIRTY // 9, 7 - work] for work in range(4)], [[0, 2], [0, 3], [1, 3]]),
)


def beside(one, other):
    """Both lots as one, the works of the other behind those of the one by their numbers alone."""
    ahead = len(one[0])
    return one[0] + other[0], one[1] + [[first + ahead, second + ahead] for first, second in other[1]]


def behind(one, other):
    works, needs = beside(one, other)
    ahead = len(one[0])
    return works, needs + [[first, second] for first in range(ahead) for second in range(ahead, len(works))]


def cheapest_parting(one, other, end):
    """The least that both lots cost for two ends that come to the end together; None where there are no such."""
    found = []
    for first in range(end + 1):
        prices = (price_at(*one, first), price_at(*other, end - first))
        if None not in prices:
            found.append(sum(prices))
    return min(found, default=None)


def pieces(told):
    """The straight pieces of a curve: by how much the price rises for each moment, and for how many moments."""
    rises = [(more - price, end - sooner) for (end, price), (sooner, more) in zip(told, told[1:])]
    return [(rise // moments, moments) for rise, moments in rises]


class TestLots(BookCase):
    def costs(self, price, works, needs, end):
        if price is None:
            self.tells_none(price_at, works, needs, end)
        else:
            self.tells(price, price_at, works, needs, end)
            self.assertEqual(self.cheapest(works, needs, end), price, (works, needs, end))

    def test_beside_one_another(self):
        for one, other in itertools.product(LOTS, repeat=2):
            both = beside(one, other)
            for end in [*range(-2, free_end(*both) + 2), -SEVENTY, SEVENTY]:
                prices = (price_at(*one, end), price_at(*other, end))
                self.costs(None if None in prices else sum(prices), *both, end)

    def test_behind_one_another(self):
        for one, other in itertools.product(LOTS, repeat=2):
            both = behind(one, other)
            for end in range(-2, free_end(*both) + 2):
                self.costs(cheapest_parting(one, other, end), *both, end)

    def test_great_lots_beside_one_another(self):
        for one, other in itertools.product(GREAT_LOTS, repeat=2):
            both = beside(one, other)
            least = max(least_end(*one), least_end(*other))
            self.tells(least, least_end, *both)
            self.tells(max(free_end(*one), free_end(*other)), free_end, *both)
            ends = [end for end, price in corners(*one) + corners(*other) if end > least]
            for end in [least, least + 1] + [end + shift for end in ends for shift in (-1, 0, 1)]:
                self.costs(price_at(*one, end) + price_at(*other, end), *both, end)
            self.costs(None, *both, least - 1)

    def test_great_lots_behind_one_another(self):
        for one, other in itertools.product(GREAT_LOTS, repeat=2):
            both = behind(one, other)
            end = free_end(*one) + free_end(*other)
            price = 0
            self.costs(0, *both, end)
            # To part the moments in the cheapest way is to save the cheapest ones of both lots first.
            for step, moments in sorted(pieces(corners(*one)) + pieces(corners(*other))):
                self.costs(price + step, *both, end - 1)
                end -= moments
                price += step * moments
                self.costs(price, *both, end)
            self.tells(end, least_end, *both)
            self.costs(None, *both, end - 1)

    def test_several_lots(self):
        lot = LOTS[4]
        both = behind(beside(lot, LOTS[1]), behind(LOTS[5], LOTS[3]))
        self.assertEqual(len(both[0]), 8)
        first, second = beside(lot, LOTS[1]), behind(LOTS[5], LOTS[3])
        for end in range(least_end(*both) - 1, free_end(*both) + 2):
            self.costs(cheapest_parting(first, second, end), *both, end)
