"""Points 9 and 10: streams, what goes through works, and what streams are worth for an end."""

import itertools

from hastebook.errors import NoOrder
from hastebook.streams import is_stream, through, worth
from tests.helper import (
    BEYOND,
    SEVENTY,
    THIRTY,
    BookCase,
    all_kinds,
    all_ways,
    least_prices,
    no_works,
    right_needs,
    stream_worth,
    wrong_needs,
)

# Work 4 stands by itself, and no need leads straight from 0 or 1 to 3.
NEEDS = [[0, 1], [1, 2], [0, 2], [2, 3], [2, 3]]
RIGHT_ROWS = [[3, 0, 1], [1, 4], [SEVENTY, 0, 2, 3]]
CHAIN = [[work, work + 1] for work in range(7)]


class TestIsStream(BookCase):
    def is_wrong(self, row, many=5, needs=NEEDS):
        """Of no stream, wherever it stands among right lists."""
        self.tells(False, is_stream, many, needs, [row])
        if many == 5:
            for place in range(len(RIGHT_ROWS) + 1):
                self.tells(False, is_stream, many, needs, RIGHT_ROWS[:place] + [row] + RIGHT_ROWS[place:])

    def test_no_lists(self):
        for many in range(9):
            self.tells(True, is_stream, many, [], [])
        self.tells(True, is_stream, 5, NEEDS, [])

    def test_one_list(self):
        for amount in (1, 2, 17, SEVENTY, BEYOND):
            for way in all_ways(5, NEEDS):
                self.tells(True, is_stream, 5, NEEDS, [[amount] + way])
        self.tells(True, is_stream, 1, [], [[1, 0]])

    def test_several_lists(self):
        self.tells(True, is_stream, 5, NEEDS, RIGHT_ROWS)
        self.tells(True, is_stream, 5, NEEDS, [[1] + way for way in all_ways(5, NEEDS)])

    def test_the_same_way_in_several_lists(self):
        self.tells(True, is_stream, 5, NEEDS, [[2, 0, 1], [2, 0, 1], [5, 0, 1]])
        self.tells(True, is_stream, 5, NEEDS, [[1, 4]] * 400)

    def test_needs_told_in_any_order_and_more_than_once(self):
        self.tells(True, is_stream, 5, NEEDS[::-1] * 80, RIGHT_ROWS)
        self.tells(False, is_stream, 5, NEEDS[::-1] * 80, [[1, 0, 3]])

    def test_way_of_all_of_eight_works(self):
        self.tells(True, is_stream, 8, CHAIN, [[1, 0, 1, 2, 3, 4, 5, 6, 7]])
        self.tells(True, is_stream, 8, [need[::-1] for need in CHAIN], [[1, 7, 6, 5, 4, 3, 2, 1, 0], [1, 3, 2]])
        self.tells(False, is_stream, 8, CHAIN, [[1, 0, 1, 2, 3, 4, 5, 6, 7, 8]])

    def test_list_of_none(self):
        self.is_wrong([])
        for many in range(5):
            self.is_wrong([], many, [])
        self.tells(False, is_stream, 5, NEEDS, [[], []])

    def test_amount_alone(self):
        for amount in (1, 0, -1, 2, SEVENTY, -SEVENTY, BEYOND):
            self.is_wrong([amount])
            self.is_wrong([amount], 0, [])

    def test_amount_of_nought_and_below(self):
        for amount in (0, -1, -2, -SEVENTY, -BEYOND):
            self.is_wrong([amount, 0])
            self.is_wrong([amount, 0, 1, 2, 3])
            self.is_wrong([amount, 4])

    def test_numbers_that_are_no_works(self):
        for number in no_works(5):
            for row in ([1, number], [1, 0, number], [1, number, 0], [1, 0, number, 1], [1, number, number]):
                self.is_wrong(row)
        for many in (1, 2, 8):
            for number in no_works(many):
                self.is_wrong([1, number], many, [])
        for number in [0] + no_works(0):
            self.is_wrong([1, number], 0, [])

    def test_work_told_twice(self):
        for row in ([1, 0, 0], [1, 4, 4], [1, 0, 0, 1], [1, 0, 1, 1], [1, 0, 1, 0], [1, 0, 1, 2, 0], [2, 1, 2, 1]):
            self.is_wrong(row)

    def test_step_by_no_told_need(self):
        for row in ([1, 0, 4], [1, 4, 0], [1, 0, 3], [1, 1, 3], [1, 0, 1, 3], [1, 0, 1, 4], [1, 4, 2, 3]):
            self.is_wrong(row)
        self.is_wrong([1, 0, 1], 2, [])

    def test_step_turned_round(self):
        for row in ([1, 1, 0], [1, 2, 1], [1, 2, 0], [1, 3, 2], [1, 0, 2, 1], [1, 3, 2, 1, 0]):
            self.is_wrong(row)

    def test_the_amount_is_no_work_of_the_way(self):
        self.tells(True, is_stream, 5, NEEDS, [[1, 0], [3, 0, 1], [2, 2], [4, 2, 3]])
        self.is_wrong([0, 1])
        self.is_wrong([0, 1, 2])

    def test_long_lists(self):
        for row in ([1] * 400, [1] + [0, 1] * 200, [SEVENTY] * 400, [1, 0] + [BEYOND] * 448):
            self.tells(False, is_stream, 5, NEEDS, [row])
            self.tells(False, is_stream, 5, NEEDS * 80, [row] * 400)
            self.tells(False, is_stream, 5, NEEDS, [[1, 0]] * 399 + [row])

    def test_all_lists_of_few_works(self):
        for needs in right_needs(3):
            ways = all_ways(3, needs)
            for size in range(4):
                for some in itertools.product(range(-1, 4), repeat=size):
                    self.tells(list(some) in ways, is_stream, 3, needs, [[1] + list(some)])
                    self.tells(False, is_stream, 3, needs, [[0] + list(some)])

    def test_refused_needs_whatever_the_rows(self):
        for many in (2, 3, 8):
            for needs in wrong_needs(many):
                for rows in ([], [[]], [[1, 0]], [[1, 0, 1]], [[0]], [[-1, SEVENTY]], [[1, 0], [], [1, many]]):
                    self.refuses(NoOrder, is_stream, many, needs, rows)

    def test_any_need_is_refused_where_there_are_no_works(self):
        for number in [0] + no_works(0):
            for rows in ([], [[]], [[1, 0]]):
                self.refuses(NoOrder, is_stream, 0, [[number, 0]], rows)
                self.refuses(NoOrder, is_stream, 0, [[0, number]], rows)


class TestThrough(BookCase):
    def test_no_lists(self):
        for many in range(9):
            self.tells([0] * many, through, many, [])

    def test_one_list(self):
        self.tells([0, 7, 0], through, 3, [[7, 1]])
        self.tells([4, 0, 4, 4, 0], through, 5, [[4, 0, 2, 3]])

    def test_works_through_which_nothing_goes(self):
        self.tells([0, 0, 2, 0, 0, 0, 0, 0], through, 8, [[2, 2]])
        self.tells([3, 3, 0, 0, 1], through, 5, [[3, 0, 1], [1, 4]])

    def test_one_way_in_several_lists(self):
        self.tells([10, 10, 0], through, 3, [[1, 0, 1], [2, 0, 1], [7, 0, 1]])
        self.tells([400, 0], through, 2, [[1, 0]] * 400)

    def test_ways_that_share_works(self):
        self.tells([12, 3, 14, 4, 0], through, 5, [[3, 0, 1, 2], [4, 0, 2, 3], [5, 0, 2], [2, 2]])

    def test_ways_to_lesser_numbers(self):
        self.tells([5, 6, 6], through, 3, [[5, 2, 1, 0], [1, 2, 1]])

    def test_amounts_of_seventy_figures_and_beyond(self):
        self.tells([SEVENTY + 1, 2 * SEVENTY + 1], through, 2, [[SEVENTY, 0, 1], [1, 0, 1], [SEVENTY, 1]])
        self.tells([BEYOND, BEYOND + SEVENTY], through, 2, [[BEYOND, 0, 1], [SEVENTY, 1]])

    def test_all_of_eight_works(self):
        rows = [[2 ** work] + list(range(work, 8)) for work in range(8)]
        self.tells([1, 3, 7, 15, 31, 63, 127, 255], through, 8, rows)


class TestWorth(BookCase):
    def test_amounts_round_the_price(self):
        works = [[9, 4, 5]]
        self.tells(0, worth, works, [], 3)
        self.tells(9 - 3, worth, works, [[1, 0]], 3)
        self.tells(4 * 9 - 4 * 3, worth, works, [[4, 0]], 3)
        self.tells(5 * 9 - 5 * 3, worth, works, [[5, 0]], 3)
        self.tells(5 * 5 + 6 * 4 - 6 * 3, worth, works, [[6, 0]], 3)
        self.tells(5 * 5 + 90 * 4 - 90 * 3, worth, works, [[90, 0]], 3)

    def test_amounts_of_several_lists_count_together(self):
        self.tells(5 * 9 - 5 * 3, worth, [[9, 4, 5]], [[2, 0], [3, 0]], 3)
        self.tells(5 * 5 + 6 * 4 - 6 * 3, worth, [[9, 4, 5]], [[3, 0], [1, 0], [2, 0]], 3)

    def test_price_of_nought(self):
        self.tells(0, worth, [[9, 4, 0]], [], 3)
        self.tells(4 - 3, worth, [[9, 4, 0]], [[1, 0]], 3)
        self.tells(7 * 4 - 7 * 3, worth, [[9, 4, 0]], [[7, 0]], 3)
        self.tells(-7 * 3, worth, [[9, 0, 0]], [[7, 0]], 3)

    def test_usual_hours_that_are_the_least_ones(self):
        for amount in range(1, 9):
            self.tells(amount * 6 - amount * 2, worth, [[6, 6, 5]], [[amount, 0]], 2)
            self.tells(amount * 6 - amount * 2, worth, [[6, 6, 0]], [[amount, 0]], 2)
            self.tells(-amount * 2, worth, [[0, 0, 5]], [[amount, 0]], 2)

    def test_several_works_and_lists(self):
        works = [[4, 2, 3], [5, 5, 0], [6, 0, 10], [7, 1, 2]]
        rows = [[3, 0, 1], [7, 0, 2]]
        self.tells(3 * 2 + 10 * 2 + 3 * 5 + 7 * 6 - 10 * 8, worth, works, rows, 8)
        self.tells(3 * 2 + 10 * 2 + 3 * 5 + 7 * 6, worth, works, rows, 0)

    def test_ends(self):
        works = [[4, 2, 3], [6, 0, 10]]
        rows = [[2, 0, 1], [1, 1]]
        for end in (0, 1, -1, -9, 77, SEVENTY, -SEVENTY, BEYOND, -BEYOND):
            self.tells(2 * 4 + 3 * 6 - 3 * end, worth, works, rows, end)

    def test_thirty_figures(self):
        works = [[THIRTY, 1, THIRTY]]
        for amount in (1, THIRTY - 1, THIRTY):
            self.tells(amount * THIRTY - amount * 2, worth, works, [[amount, 0]], 2)
        for amount in (THIRTY + 1, SEVENTY, BEYOND):
            self.tells(THIRTY * (THIRTY - 1) + amount - amount * 2, worth, works, [[amount, 0]], 2)
        self.tells(8 * THIRTY * THIRTY - THIRTY * SEVENTY, worth, works * 8, [[THIRTY] + list(range(8))], SEVENTY)

    def test_no_lists(self):
        for end in (0, 5, -5, SEVENTY, -SEVENTY):
            self.tells(0, worth, [[4, 2, 3], [6, 0, 10]], [], end)

    def test_no_works(self):
        for end in (0, 5, -5, SEVENTY, -SEVENTY):
            self.tells(0, worth, [], [], end)

    def test_the_least_over_all_hours_of_a_work(self):
        for work in all_kinds(4, 3):
            usual, least, price = work
            for amount in range(1, 7):
                choices = [price * (usual - hours) + amount * hours for hours in range(least, usual + 1)]
                for end in (-1, 0, 2):
                    self.tells(min(choices) - amount * end, worth, [work], [[amount, 0]], end)

    def test_never_more_than_the_least_price(self):
        works = [[2, 0, 1], [3, 1, 2], [2, 1, 0]]
        for needs in right_needs(3):
            prices = least_prices(works, needs)
            ways = all_ways(3, needs)
            for first, second in itertools.product(ways, repeat=2):
                for amount in range(1, 5):
                    rows = [[amount] + first, [2] + second]
                    for end, price in prices.items():
                        told = worth(works, rows, end)
                        self.assertEqual(told, stream_worth(works, rows, end))
                        self.assertLessEqual(told, price)
