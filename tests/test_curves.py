"""Points 3 and 12: the corners of the curve of least prices, and its prices and steps at single ends."""

from hastebook.curves import corners, price_at, step_at
from hastebook.errors import NoOrder
from tests.helper import (
    BEYOND,
    GIVEN_BACK,
    SEVENTY,
    THIRTY,
    BookCase,
    all_ways,
    expected_corners,
    far_ends,
    great_cases,
    least_prices,
    length_of,
    price_between,
    refused_cases,
    short_ends,
    small_cases,
)

WORKS = [[4, 2, 3], [5, 5, 0], [6, 0, 10]]
NEEDS = [[0, 1], [0, 2]]
CHAIN = [[work, work + 1] for work in range(7)]


class TestCorners(BookCase):
    def test_some_corners(self):
        self.tells([[10, 0], [8, 6], [7, 16]], corners, WORKS, NEEDS)
        self.tells([[10, 0], [8, 6], [7, 16]], corners, WORKS, NEEDS * 200)
        self.tells([[12, 0], [10, 6], [8, 16], [7, 24], [6, 44], [5, 67]], corners, *GIVEN_BACK)

    def test_no_works(self):
        self.tells([[0, 0]], corners, [], [])

    def test_one_work(self):
        self.tells([[8, 0], [3, 25]], corners, [[8, 3, 5]], [])
        self.tells([[8, 0], [7, 1]], corners, [[8, 7, 1]], [])
        self.tells([[8, 0], [0, 8]], corners, [[8, 0, 1]], [])

    def test_one_list_where_both_ends_are_the_same(self):
        self.tells([[8, 0]], corners, [[8, 8, 5]], [])
        self.tells([[3, 0]], corners, [[8, 3, 0]], [])
        self.tells([[0, 0]], corners, [[0, 0, 5]], [])
        self.tells([[0, 0]], corners, [[9, 0, 0]] * 8, CHAIN)
        # The second work can be hastened for money, yet no end is sooner by it.
        self.tells([[5, 0]], corners, [[5, 5, 0], [4, 1, 2]], [])
        self.tells([[5, 0]], corners, [[5, 5, 0], [5, 1, 2]], [])

    def test_no_corner_where_the_steps_are_alike(self):
        self.tells([[9, 0], [0, 18]], corners, [[4, 0, 2], [5, 0, 2]], [[0, 1]])
        self.tells([[9, 0], [0, 18]], corners, [[3, 0, 2]] * 3, [[2, 1], [1, 0]])
        # The two works beside one another are together just as dear as the one that both need.
        self.tells([[5, 0], [0, 20]], corners, [[2, 0, 4], [3, 0, 1], [3, 0, 3]], [[0, 1], [0, 2]])

    def test_works_of_other_prices_behind_one_another(self):
        works = [[2, 0, price] for price in (8, 3, 5, 1, 7, 2, 6, 4)]
        expected = [[16 - 2 * step, step * (step + 1)] for step in range(9)]
        self.tells(expected, corners, works, CHAIN)

    def test_works_of_other_hours_beside_one_another(self):
        works = [[8 - work, 0, 1] for work in range(8)]
        expected = [[8 - step, step * (step + 1) // 2] for step in range(9)]
        self.tells(expected, corners, works, [])

    def test_work_that_can_be_hastened_but_in_part(self):
        self.tells([[7, 0], [5, 2], [4, 6]], corners, [[4, 2, 1], [3, 2, 4]], [[0, 1]])
        self.tells([[6, 0], [5, 1], [4, 5]], corners, [[6, 2, 1], [5, 4, 3]], [])

    def test_thirty_figures(self):
        works = [[THIRTY, 0, THIRTY], [THIRTY, THIRTY - 1, 1]]
        self.tells([[2 * THIRTY, 0], [2 * THIRTY - 1, 1], [THIRTY - 1, 1 + THIRTY ** 2]], corners, works, [[0, 1]])
        self.tells([[THIRTY, 0], [0, 8 * THIRTY ** 2]], corners, [[THIRTY, 0, THIRTY]] * 8, [])
        self.tells([[8 * THIRTY, 0], [0, 8 * THIRTY ** 2]], corners, [[THIRTY, 0, THIRTY]] * 8, CHAIN)
        self.tells([[THIRTY, 0], [THIRTY - 1, THIRTY]], corners, [[THIRTY, THIRTY - 1, THIRTY]], [])

    def test_few_works_by_a_search(self):
        for works, needs in small_cases():
            self.tells(expected_corners(least_prices(works, needs)), corners, works, needs)

    def test_great_works(self):
        for works, needs in great_cases():
            told = self.ask(corners, works, needs)
            self.whole_numbers(told)
            ways = all_ways(len(works), needs)
            free = length_of([usual if price else least for usual, least, price in works], ways)
            self.assertEqual(told[0], [free, 0])
            self.assertEqual(told[-1][0], length_of([work[1] for work in works], ways))
            steps = [0]
            for (end, price), (sooner, more) in zip(told, told[1:]):
                self.assertLess(sooner, end)
                self.assertEqual((more - price) % (end - sooner), 0)
                steps.append((more - price) // (end - sooner))
            self.assertEqual(steps, sorted(set(steps)), "the steps are greater from corner to corner")
            for end, price in told:
                self.assertEqual(self.cheapest(works, needs, end), price)


class TestPriceAndStep(BookCase):
    def test_each_end(self):
        for end, price in {7: 16, 8: 6, 9: 3, 10: 0, 11: 0, SEVENTY: 0, BEYOND: 0}.items():
            self.tells(price, price_at, WORKS, NEEDS, end)
            self.tells(price, price_at, WORKS, NEEDS * 200, end)
        for end, step in {8: 10, 9: 3, 10: 3, 11: 0, 12: 0, SEVENTY: 0, BEYOND: 0}.items():
            self.tells(step, step_at, WORKS, NEEDS, end)
            self.tells(step, step_at, WORKS, NEEDS * 200, end)

    def test_too_small_ends(self):
        self.tells_none(step_at, WORKS, NEEDS, 7)
        for end in (6, 5, 1, 0, -1, -2, -SEVENTY, -BEYOND):
            self.tells_none(price_at, WORKS, NEEDS, end)
            self.tells_none(step_at, WORKS, NEEDS, end)

    def test_no_works(self):
        self.tells(0, price_at, [], [], 0)
        self.tells_none(step_at, [], [], 0)
        for end in (1, 2, SEVENTY):
            self.tells(0, price_at, [], [], end)
            self.tells(0, step_at, [], [], end)
        for end in (-1, -2, -SEVENTY):
            self.tells_none(price_at, [], [], end)
            self.tells_none(step_at, [], [], end)

    def test_where_both_ends_are_the_same(self):
        for work in ([8, 8, 5], [9, 8, 0]):
            self.tells(0, price_at, [work], [], 8)
            self.tells(0, price_at, [work], [], 9)
            self.tells_none(price_at, [work], [], 7)
            self.tells(0, step_at, [work], [], 9)
            self.tells_none(step_at, [work], [], 8)
            self.tells_none(step_at, [work], [], 7)

    def test_the_least_end_nought(self):
        self.tells(6, price_at, [[3, 0, 2]], [], 0)
        self.tells_none(step_at, [[3, 0, 2]], [], 0)
        self.tells(2, step_at, [[3, 0, 2]], [], 1)
        self.tells_none(price_at, [[3, 0, 2]], [], -1)
        self.tells_none(step_at, [[3, 0, 2]], [], -1)

    def test_thirty_figures(self):
        works = [[THIRTY, 0, THIRTY], [THIRTY, THIRTY - 1, 1]]
        prices = {0: 0, 1: 1, 2: 1 + THIRTY, THIRTY: 1 + (THIRTY - 1) * THIRTY, THIRTY + 1: 1 + THIRTY ** 2}
        for sooner, price in prices.items():
            self.tells(price, price_at, works, [[0, 1]], 2 * THIRTY - sooner)
        for sooner, step in {-1: 0, 0: 1, 1: THIRTY, 2: THIRTY, THIRTY: THIRTY}.items():
            self.tells(step, step_at, works, [[0, 1]], 2 * THIRTY - sooner)
        self.tells_none(step_at, works, [[0, 1]], THIRTY - 1)
        self.tells_none(price_at, works, [[0, 1]], THIRTY - 2)

    def test_few_works_by_a_search(self):
        for works, needs in small_cases():
            prices = least_prices(works, needs)
            least, free = min(prices), max(prices)
            self.tells_none(step_at, works, needs, least)
            for end, price in prices.items():
                self.tells(price, price_at, works, needs, end)
                if end > least:
                    self.tells(prices[end - 1] - price, step_at, works, needs, end)
            for end in (free + 1, free + 2, free + SEVENTY):
                self.tells(0, price_at, works, needs, end)
                self.tells(0, step_at, works, needs, end)
            for end in short_ends(least):
                self.tells_none(price_at, works, needs, end)
                self.tells_none(step_at, works, needs, end)

    def test_great_works_at_corners_beside_them_and_between(self):
        for works, needs in great_cases():
            told = corners(works, needs)
            least, free = told[-1][0], told[0][0]
            ends = [end + shift for end, price in told for shift in (-1, 0, 1) if end + shift >= least]
            ends += [(end + sooner) // 2 for (end, price), (sooner, more) in zip(told, told[1:])]
            for end in sorted({*ends, *far_ends(least, free)}):
                price = price_between(told, end)
                self.tells(price, price_at, works, needs, end)
                self.assertEqual(self.cheapest(works, needs, end), price)
                if end > least:
                    self.tells(price_between(told, end - 1) - price, step_at, works, needs, end)
            self.tells_none(step_at, works, needs, least)
            for end in short_ends(least):
                self.tells_none(price_at, works, needs, end)
                self.tells_none(step_at, works, needs, end)


class TestRefusedNeeds(BookCase):
    def all_refuse(self, works, needs):
        self.refuses(NoOrder, corners, works, needs)
        for end in (BEYOND, SEVENTY, 5, 1, 0, -1, -SEVENTY):
            self.refuses(NoOrder, price_at, works, needs, end)
            self.refuses(NoOrder, step_at, works, needs, end)

    def test_wrong_needs(self):
        for works, needs in refused_cases():
            self.all_refuse(works, needs)
