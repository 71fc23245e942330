"""Points 3 and 11: the least end and the free one, cheapest plans, the streams that show it, and ways too long."""

import itertools

from hastebook.errors import NoOrder
from hastebook.haste import free_end, least_end, plan_at, stream_at, too_long
from tests.helper import (
    BEYOND,
    EIGHT_NEEDS,
    GIVEN_BACK,
    SEVENTY,
    THIRTY,
    BookCase,
    all_ways,
    far_ends,
    great_cases,
    hours_of,
    is_plan,
    least_prices,
    length_of,
    plan_price,
    refused_cases,
    right_needs,
    short_ends,
    small_cases,
)

WORKS = [[4, 2, 3], [5, 5, 0], [6, 0, 10]]
NEEDS = [[0, 1], [0, 2]]
PRICES = {7: 16, 8: 6, 9: 3, 10: 0, 11: 0}
CHAIN = [[work, work + 1] for work in range(7)]


def expected_ends(works, needs):
    """The least end and the free end by the lengths of all ways."""
    ways = all_ways(len(works), needs)
    least = length_of([work[1] for work in works], ways)
    free = length_of([usual if price else least for usual, least, price in works], ways)
    return least, free


class TestEnds(BookCase):
    def ends_are(self, least, free, works, needs):
        self.tells(least, least_end, works, needs)
        self.tells(free, free_end, works, needs)

    def test_both_ends(self):
        self.ends_are(7, 10, WORKS, NEEDS)
        self.ends_are(5, 12, *GIVEN_BACK)

    def test_no_works(self):
        self.ends_are(0, 0, [], [])

    def test_one_work(self):
        self.ends_are(3, 8, [[8, 3, 1]], [])
        self.ends_are(8, 8, [[8, 8, 1]], [])
        self.ends_are(0, 0, [[0, 0, 1]], [])

    def test_price_of_nought_with_hours_that_can_be_hastened(self):
        self.ends_are(3, 3, [[8, 3, 0]], [])
        self.ends_are(5, 9, [[8, 3, 0], [6, 2, 1]], [[0, 1]])
        self.ends_are(0, 0, [[8, 0, 0], [9, 0, 0]], [[1, 0]])
        self.ends_are(3, 6, [[8, 3, 0], [6, 2, 1]], [])

    def test_least_hours_of_nought(self):
        self.ends_are(0, 8, [[8, 0, 2]], [])
        self.ends_are(0, 15, [[8, 0, 2], [7, 0, 5]], [[1, 0]])

    def test_the_longest_way_is_not_the_same_one_for_both(self):
        self.ends_are(4, 9, [[9, 1, 1], [4, 4, 1]], [])
        self.ends_are(5, 11, [[9, 1, 1], [4, 4, 1], [2, 1, 1]], [[0, 2], [1, 2]])

    def test_needs_told_more_than_once(self):
        self.ends_are(7, 10, WORKS, NEEDS * 200)
        self.ends_are(7, 10, WORKS, [NEEDS[1], NEEDS[0], NEEDS[1]])

    def test_eight_works(self):
        works = [[work + 3, work, work % 2] for work in range(8)]
        self.ends_are(28, 28 + 4 * 3, works, CHAIN)
        self.ends_are(7, 10, works, [])
        for needs in EIGHT_NEEDS:
            self.ends_are(*expected_ends(works, needs), works, needs)

    def test_thirty_figures_and_beyond(self):
        self.ends_are(0, 8 * THIRTY, [[THIRTY, 0, THIRTY]] * 8, CHAIN)
        self.ends_are(THIRTY, THIRTY, [[THIRTY, THIRTY, THIRTY]] * 8, [])
        self.ends_are(2 * THIRTY - 1, 2 * THIRTY, [[THIRTY, THIRTY - 1, 1], [THIRTY, THIRTY, 0]], [[1, 0]])
        self.ends_are(1, BEYOND + 1, [[BEYOND, 0, BEYOND], [1, 1, 0]] + [[0, 0, 0]] * 8, [[0, 1]] * 450)

    def test_few_works(self):
        for works, needs in small_cases():
            prices = least_prices(works, needs)
            self.ends_are(min(prices), max(prices), works, needs)

    def test_great_works(self):
        for works, needs in great_cases():
            self.ends_are(*expected_ends(works, needs), works, needs)


class TestCheapest(BookCase):
    def costs(self, price, works, needs, end):
        self.assertEqual(self.cheapest(works, needs, end), price, (works, needs, end))

    def is_free(self, works, needs, end):
        self.costs(0, works, needs, end)
        self.tells([], stream_at, works, needs, end)

    def is_too_short(self, works, needs, end):
        self.tells_none(plan_at, works, needs, end)
        self.tells_none(stream_at, works, needs, end)

    def test_each_end(self):
        for end, price in PRICES.items():
            self.costs(price, WORKS, NEEDS, end)
        for end in (10, 11, 12, 500, SEVENTY, BEYOND):
            self.is_free(WORKS, NEEDS, end)
        for end in (6, 5, 1, 0, -1, -SEVENTY, -BEYOND):
            self.is_too_short(WORKS, NEEDS, end)

    def test_hours_that_are_given_back(self):
        for end, price in {12: 0, 11: 3, 10: 6, 9: 11, 8: 16, 7: 24, 6: 44, 5: 67}.items():
            self.costs(price, *GIVEN_BACK, end)
        # There is but one cheapest plan for each of these.
        self.tells([[0, 4], [0, 6], [4, 2], [4, 6], [6, 4]], plan_at, *GIVEN_BACK, 10)
        self.tells([[0, 2], [0, 6], [2, 4], [2, 6], [6, 2]], plan_at, *GIVEN_BACK, 8)

    def test_no_works(self):
        for end in (0, 1, 7, SEVENTY):
            self.tells([], plan_at, [], [], end)
            self.tells([], stream_at, [], [], end)
        for end in (-1, -2, -SEVENTY):
            self.is_too_short([], [], end)

    def test_one_work(self):
        for end in range(3, 9):
            self.tells([[0, end]], plan_at, [[8, 3, 5]], [], end)
            self.costs(5 * (8 - end), [[8, 3, 5]], [], end)
        for end in (8, 9, SEVENTY):
            self.is_free([[8, 3, 5]], [], end)
        for end in (2, 1, 0, -1, -SEVENTY):
            self.is_too_short([[8, 3, 5]], [], end)

    def test_works_of_no_hours(self):
        works = [[0, 0, 4], [0, 0, 0]]
        self.tells([[0, 0], [0, 0]], plan_at, works, [[0, 1]], 0)
        for end in (0, 1, SEVENTY):
            self.is_free(works, [[1, 0]], end)
        for end in (-1, -SEVENTY):
            self.is_too_short(works, [[1, 0]], end)

    def test_price_of_nought(self):
        works = [[8, 3, 0], [6, 2, 7]]
        for end in (9, 10, 14, SEVENTY):
            self.is_free(works, [[0, 1]], end)
        for end in range(5, 10):
            self.costs(7 * (9 - end), works, [[0, 1]], end)
        self.is_too_short(works, [[0, 1]], 4)
        self.is_free([[8, 0, 0], [9, 0, 0]], [[0, 1]], 0)

    def test_where_both_ends_are_the_same(self):
        for works in ([[4, 4, 9]], [[4, 4, 0], [5, 1, 2]], [[9, 5, 0]]):
            least, free = expected_ends(works, [])
            for end in (free, free + 1, free + SEVENTY):
                self.is_free(works, [], end)
            self.is_too_short(works, [], least - 1)

    def test_works_beside_one_another(self):
        works = [[9, 0, 1], [9, 0, 2], [9, 0, 4], [9, 0, 8], [5, 0, 16], [5, 0, 32], [5, 0, 64], [5, 5, 128]]
        for end in range(5, 10):
            self.costs(15 * (9 - end), works, [], end)
        self.is_too_short(works, [], 4)
        for end in range(5):
            self.costs(15 * (9 - end) + (16 + 32 + 64) * (5 - end), works[:7], [], end)

    def test_works_behind_one_another(self):
        works = [[3, 0, price] for price in (8, 3, 5, 1, 7, 2, 6, 4)]
        total = 0
        self.is_free(works, CHAIN, 24)
        for saved in range(1, 25):
            # The cheapest work of all that can still be hastened.
            total += (saved + 2) // 3
            self.costs(total, works, CHAIN, 24 - saved)
        self.is_too_short(works, CHAIN, -1)

    def test_work_that_all_others_need(self):
        works = [[4, 2, 10], [4, 2, 3], [4, 2, 3], [4, 2, 3]]
        needs = [[0, 1], [0, 2], [0, 3]]
        for end, price in {8: 0, 7: 9, 6: 18, 5: 28, 4: 38}.items():
            self.costs(price, works, needs, end)
        works[0][2] = 8
        for end, price in {8: 0, 7: 8, 6: 16, 5: 25, 4: 34}.items():
            self.costs(price, works, needs, end)

    def test_needs_told_more_than_once(self):
        for end, price in PRICES.items():
            self.costs(price, WORKS, NEEDS * 200, end)
        self.is_too_short(WORKS, NEEDS * 200, 6)

    def test_thirty_figures(self):
        works = [[THIRTY, 0, THIRTY], [THIRTY, THIRTY - 1, 1]]
        self.is_free(works, [[0, 1]], 2 * THIRTY)
        self.costs(1, works, [[0, 1]], 2 * THIRTY - 1)
        self.costs(1 + THIRTY, works, [[0, 1]], 2 * THIRTY - 2)
        self.costs(1 + THIRTY * THIRTY, works, [[0, 1]], THIRTY - 1)
        self.is_too_short(works, [[0, 1]], THIRTY - 2)
        self.costs(8 * THIRTY * THIRTY, [[THIRTY, 0, THIRTY]] * 8, [], 0)
        self.costs(8 * THIRTY * THIRTY, [[THIRTY, 0, THIRTY]] * 8, CHAIN, 0)

    def test_few_works_by_a_search(self):
        for works, needs in small_cases():
            prices = least_prices(works, needs)
            least, free = min(prices), max(prices)
            for end, price in prices.items():
                self.costs(price, works, needs, end)
            for end in (free, free + 1, free + SEVENTY):
                self.is_free(works, needs, end)
            for end in short_ends(least):
                self.is_too_short(works, needs, end)

    def test_few_works_by_a_search_over_all_begins_too(self):
        for needs in right_needs(2):
            for works in ([[2, 1, 1], [2, 0, 3]], [[1, 0, 0], [2, 1, 2]], [[2, 0, 2], [2, 2, 0]]):
                for end in range(-1, 5):
                    rows = list(itertools.product(range(5), range(3)))
                    plans = [plan for plan in itertools.product(rows, repeat=2) if is_plan(works, needs, end, plan)]
                    if plans:
                        self.costs(min(plan_price(works, plan) for plan in plans), works, needs, end)
                    else:
                        self.is_too_short(works, needs, end)

    def test_great_works(self):
        for works, needs in great_cases():
            least, free = expected_ends(works, needs)
            for end in far_ends(least, free):
                if end < free:
                    self.assertGreater(self.cheapest(works, needs, end), 0)
                else:
                    self.is_free(works, needs, end)
            for end in short_ends(least):
                self.is_too_short(works, needs, end)


class TestTooLong(BookCase):
    def is_too_long(self, works, needs, end):
        way = self.ask(too_long, works, needs, end)
        self.whole_numbers(way)
        self.assertIn(way, all_ways(len(works), needs), (works, needs, end))
        self.assertGreater(hours_of(way, [work[1] for work in works]), end, (works, needs, end))

    def test_the_only_way_too_long(self):
        self.tells([0, 1], too_long, WORKS, NEEDS, 6)
        self.tells([0, 1], too_long, WORKS, NEEDS * 200, 6)
        self.tells([2], too_long, [[9, 1, 1], [9, 1, 1], [4, 4, 1]], [[0, 1]], 3)
        self.tells([2, 1, 0], too_long, [[1, 1, 0], [2, 2, 0], [3, 3, 0]], [[1, 0], [2, 1]], 5)

    def test_lesser_ends(self):
        for end in (6, 5, 4, 1, 0, -1, -2, -SEVENTY, -BEYOND):
            self.is_too_long(WORKS, NEEDS, end)

    def test_none_from_the_least_end_on(self):
        for end in (7, 8, 10, 11, SEVENTY, BEYOND):
            self.tells_none(too_long, WORKS, NEEDS, end)

    def test_no_works(self):
        for end in (-1, -2, -SEVENTY, -BEYOND):
            self.tells([], too_long, [], [], end)
        for end in (0, 1, SEVENTY):
            self.tells_none(too_long, [], [], end)

    def test_least_hours_of_nought(self):
        works = [[3, 0, 1], [2, 0, 0]]
        for end in (-1, -2, -SEVENTY):
            self.is_too_long(works, [], end)
            self.is_too_long(works, [[1, 0]], end)
        for end in (0, 1, SEVENTY):
            self.tells_none(too_long, works, [[1, 0]], end)

    def test_least_hours_count_and_not_usual_ones(self):
        self.tells([1], too_long, [[99, 1, 0], [2, 2, 0]], [], 1)
        self.tells_none(too_long, [[99, 1, 50], [2, 2, 0]], [], 2)

    def test_few_and_great_works(self):
        for works, needs in itertools.chain(small_cases(), great_cases()):
            least, free = expected_ends(works, needs)
            for end in (least, least + 1, free, free + 1, free + SEVENTY):
                self.tells_none(too_long, works, needs, end)
            for end in short_ends(least):
                if works:
                    self.is_too_long(works, needs, end)


class TestRefusedNeeds(BookCase):
    def all_refuse(self, works, needs):
        self.refuses(NoOrder, least_end, works, needs)
        self.refuses(NoOrder, free_end, works, needs)
        for end in (BEYOND, SEVENTY, 5, 1, 0, -1, -SEVENTY):
            for call in (plan_at, stream_at, too_long):
                self.refuses(NoOrder, call, works, needs, end)

    def test_wrong_needs(self):
        for works, needs in refused_cases():
            self.all_refuse(works, needs)
