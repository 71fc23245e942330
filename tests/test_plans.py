"""Point 8: plans that keep an end, and their prices."""

import copy

from hastebook.errors import NoOrder
from hastebook.moments import earliest, latest, length
from hastebook.plans import keeps, price_of
from tests.helper import BEYOND, SEVENTY, THIRTY, BookCase, no_works, right_needs, wrong_needs

WORKS = [[4, 2, 3], [5, 5, 0], [6, 0, 10]]
NEEDS = [[0, 1], [0, 2]]
# Every work has room to move within this end.
PLAN = [[1, 3], [5, 5], [6, 4]]
END = 11


class TestKeeps(BookCase):
    def with_row(self, work, row):
        plan = copy.deepcopy(PLAN)
        plan[work] = row
        return plan

    def test_a_plan(self):
        self.tells(True, keeps, WORKS, NEEDS, END, PLAN)
        self.tells(True, keeps, WORKS, NEEDS, SEVENTY, PLAN)
        self.tells(True, keeps, WORKS, NEEDS, BEYOND, PLAN)

    def test_no_works(self):
        for end in (0, 1, SEVENTY):
            self.tells(True, keeps, [], [], end, [])
        for end in (-1, -2, -SEVENTY, -BEYOND):
            self.tells(False, keeps, [], [], end, [])

    def test_end_below_nought(self):
        self.tells(True, keeps, [[0, 0, 1]], [], 0, [[0, 0]])
        for end in (-1, -SEVENTY, -BEYOND):
            self.tells(False, keeps, [[0, 0, 1]], [], end, [[0, 0]])
            self.tells(False, keeps, WORKS, NEEDS, end, PLAN)

    def test_too_few_rows(self):
        for many in range(3):
            self.tells(False, keeps, WORKS, NEEDS, END, PLAN[:many])
            self.tells(False, keeps, WORKS, [], END, PLAN[:many])
        self.tells(False, keeps, [[0, 0, 0]], [], 5, [])

    def test_too_many_rows(self):
        self.tells(False, keeps, WORKS, NEEDS, END, PLAN + [[0, 0]])
        self.tells(False, keeps, WORKS, NEEDS, END, PLAN + [[]])
        self.tells(False, keeps, WORKS, NEEDS, END, PLAN * 130)
        self.tells(False, keeps, [], [], 5, [[0, 0]])
        self.tells(False, keeps, [], [], 5, [[]])

    def test_rows_of_more_or_fewer_numbers(self):
        for work in range(3):
            begin, hours = PLAN[work]
            for row in ([], [begin], [hours], [begin, hours, 0], [begin, hours, hours], [0] * 400):
                self.tells(False, keeps, WORKS, NEEDS, END, self.with_row(work, row))
                self.tells(False, keeps, WORKS, [], END, self.with_row(work, row))
        self.tells(False, keeps, WORKS, NEEDS, END, [[], [], []])

    def test_begin_below_nought(self):
        self.tells(True, keeps, WORKS, NEEDS, END, self.with_row(0, [0, 3]))
        for begin in (-1, -SEVENTY, -BEYOND):
            self.tells(False, keeps, WORKS, NEEDS, END, self.with_row(0, [begin, 3]))
        for work in range(3):
            self.tells(False, keeps, WORKS, [], END, self.with_row(work, [-1, WORKS[work][0]]))

    def test_hours_at_and_below_the_least(self):
        self.tells(True, keeps, WORKS, NEEDS, END, self.with_row(0, [1, 2]))
        self.tells(False, keeps, WORKS, NEEDS, END, self.with_row(0, [1, 1]))
        self.tells(False, keeps, WORKS, NEEDS, END, self.with_row(1, [5, 4]))
        self.tells(True, keeps, WORKS, NEEDS, END, self.with_row(2, [6, 0]))
        for hours in (-1, -SEVENTY, -BEYOND):
            self.tells(False, keeps, WORKS, NEEDS, END, self.with_row(2, [6, hours]))

    def test_hours_at_and_above_the_usual(self):
        self.tells(True, keeps, WORKS, NEEDS, END, self.with_row(0, [0, 4]))
        self.tells(False, keeps, WORKS, NEEDS, END, self.with_row(0, [0, 5]))
        self.tells(False, keeps, WORKS, NEEDS, END, self.with_row(1, [5, 6]))
        self.tells(True, keeps, WORKS, NEEDS, END, self.with_row(2, [5, 6]))
        self.tells(False, keeps, WORKS, NEEDS, END, self.with_row(2, [4, 7]))
        for hours in (SEVENTY, BEYOND):
            self.tells(False, keeps, WORKS, NEEDS, BEYOND * 9, self.with_row(2, [5, hours]))

    def test_hours_of_works_that_cannot_be_hastened(self):
        for hours in range(-1, 8):
            self.tells(hours == 3, keeps, [[3, 3, 5]], [], 20, [[0, hours]])
            self.tells(hours == 0, keeps, [[0, 0, 5]], [], 20, [[0, hours]])

    def test_done_by_the_end_and_a_moment_too_late(self):
        self.tells(True, keeps, WORKS, NEEDS, 10, PLAN)
        self.tells(False, keeps, WORKS, NEEDS, 9, PLAN)
        self.tells(True, keeps, WORKS, NEEDS, END, self.with_row(1, [6, 5]))
        self.tells(False, keeps, WORKS, NEEDS, END, self.with_row(1, [7, 5]))
        self.tells(True, keeps, WORKS, NEEDS, END, self.with_row(2, [7, 4]))
        self.tells(False, keeps, WORKS, NEEDS, END, self.with_row(2, [8, 4]))
        self.tells(False, keeps, WORKS, [], END, self.with_row(0, [9, 3]))
        for begin in (SEVENTY, BEYOND):
            self.tells(False, keeps, WORKS, NEEDS, END, self.with_row(2, [begin, 4]))

    def test_work_of_no_hours_is_done_by_the_end_too(self):
        self.tells(True, keeps, [[0, 0, 0]], [], 5, [[5, 0]])
        self.tells(False, keeps, [[0, 0, 0]], [], 5, [[6, 0]])

    def test_begun_when_a_needed_work_is_done_and_a_moment_ahead(self):
        self.tells(True, keeps, WORKS, NEEDS, END, self.with_row(1, [4, 5]))
        self.tells(False, keeps, WORKS, NEEDS, END, self.with_row(1, [3, 5]))
        self.tells(True, keeps, WORKS, NEEDS, END, self.with_row(2, [4, 4]))
        self.tells(False, keeps, WORKS, NEEDS, END, self.with_row(2, [3, 4]))
        self.tells(True, keeps, WORKS, [], END, self.with_row(2, [3, 4]))

    def test_each_of_several_needs_counts(self):
        works = [[2, 2, 0], [3, 3, 0], [4, 4, 0], [1, 1, 0]]
        needs = [[0, 3], [1, 3], [1, 3], [2, 3]]
        for place in range(4):
            turned = needs[place:] + needs[:place]
            self.tells(True, keeps, works, turned, 9, [[0, 2], [0, 3], [0, 4], [4, 1]])
            self.tells(False, keeps, works, turned, 9, [[3, 2], [0, 3], [0, 4], [4, 1]])
            self.tells(False, keeps, works, turned, 9, [[0, 2], [2, 3], [0, 4], [4, 1]])
            self.tells(False, keeps, works, turned, 9, [[0, 2], [0, 3], [1, 4], [4, 1]])

    def test_work_of_no_hours_waits_as_well(self):
        works = [[0, 0, 0], [0, 0, 0]]
        self.tells(True, keeps, works, [[0, 1]], 3, [[2, 0], [2, 0]])
        self.tells(False, keeps, works, [[0, 1]], 3, [[2, 0], [1, 0]])

    def test_need_from_a_greater_to_a_lesser_number(self):
        works = [[2, 1, 1], [3, 1, 1]]
        self.tells(True, keeps, works, [[1, 0]], 5, [[3, 2], [0, 3]])
        self.tells(False, keeps, works, [[1, 0]], 5, [[2, 2], [0, 3]])
        self.tells(False, keeps, works, [[1, 0]], 5, [[0, 2], [2, 3]])

    def test_hours_of_thirty_figures(self):
        works = [[THIRTY, 0, THIRTY], [THIRTY, THIRTY - 1, THIRTY]]
        plan = [[0, THIRTY], [THIRTY, THIRTY]]
        self.tells(True, keeps, works, [[0, 1]], 2 * THIRTY, plan)
        self.tells(False, keeps, works, [[0, 1]], 2 * THIRTY - 1, plan)
        self.tells(False, keeps, works, [[0, 1]], 3 * THIRTY, [[1, THIRTY], [THIRTY, THIRTY]])

    def test_somewhat_more_than_bounded_is_not_refused(self):
        works = [[BEYOND, BEYOND - 1, BEYOND]] * 10
        plan = [[0, BEYOND]] * 9 + [[BEYOND - 1, BEYOND - 1]]
        self.tells(True, keeps, works, [], 2 * BEYOND - 2, plan)
        self.tells(False, keeps, works, [], 2 * BEYOND - 3, plan)

    def test_earliest_and_latest_begins_of_few_works(self):
        works = [[3, 1, 2], [2, 2, 0], [4, 0, 5]]
        for needs in right_needs(3):
            for hours in ([3, 2, 4], [1, 2, 0], [2, 2, 3]):
                whole = length(hours, needs)
                for begins in (earliest(hours, needs), latest(hours, needs, whole)):
                    plan = [[begin, took] for begin, took in zip(begins, hours)]
                    self.tells(True, keeps, works, needs, whole, plan)
                    self.tells(False, keeps, works, needs, whole - 1, plan)

    def test_begins_by_all_pairs_of_two_works(self):
        works = [[2, 1, 1], [3, 0, 1]]
        hours = [2, 1]
        for first in range(-1, 6):
            for second in range(-1, 6):
                plan = [[first, 2], [second, 1]]
                alone = 0 <= first <= 3 and 0 <= second <= 4
                self.tells(alone, keeps, works, [], 5, plan)
                self.tells(alone and second >= first + hours[0], keeps, works, [[0, 1]], 5, plan)
                self.tells(alone and first >= second + hours[1], keeps, works, [[1, 0]], 5, plan)

    def test_refused_needs_whatever_the_plan_and_the_end(self):
        for many in (2, 3, 8):
            works = [[1, 0, 1]] * many
            plans = ([], [[]], [[0, 1]] * many, [[work, 1] for work in range(many)], [[-1, 9, 9]] * 10)
            for needs in wrong_needs(many):
                for plan in plans:
                    for end in (8, SEVENTY, 0, -1):
                        self.refuses(NoOrder, keeps, works, needs, end, plan)

    def test_ring_of_works_without_hours_is_refused(self):
        works = [[0, 0, 0]] * 3
        self.refuses(NoOrder, keeps, works, [[0, 1], [1, 2], [2, 0]], 5, [[0, 0]] * 3)

    def test_any_need_is_refused_where_there_are_no_works(self):
        for number in [0] + no_works(0):
            for end in (0, -1, SEVENTY):
                self.refuses(NoOrder, keeps, [], [[number, 0]], end, [])


class TestPrice(BookCase):
    def test_sum_over_the_works(self):
        self.tells(3 * 1 + 0 + 10 * 2, price_of, WORKS, PLAN)
        self.tells(7 * 2 + 5 * 3, price_of, [[6, 1, 7], [4, 1, 5]], [[9, 4], [0, 1]])

    def test_usual_hours_cost_nothing(self):
        self.tells(0, price_of, WORKS, [[0, 4], [4, 5], [4, 6]])

    def test_least_hours(self):
        self.tells(3 * 2 + 0 + 10 * 6, price_of, WORKS, [[0, 2], [2, 5], [2, 0]])

    def test_price_of_nought(self):
        self.tells(0, price_of, [[9, 0, 0]], [[0, 0]])
        self.tells(8, price_of, [[9, 0, 0], [5, 1, 2]], [[0, 3], [0, 1]])

    def test_begins_do_not_count(self):
        for begin in (0, 1, 50, SEVENTY):
            self.tells(6, price_of, [[4, 2, 3]], [[begin, 2]])

    def test_thirty_figures(self):
        self.tells(THIRTY * THIRTY, price_of, [[THIRTY, 0, THIRTY]], [[0, 0]])
        self.tells(8 * THIRTY * (THIRTY - 1), price_of, [[THIRTY, 1, THIRTY]] * 8, [[0, 1]] * 8)
        self.tells(THIRTY, price_of, [[THIRTY, 1, THIRTY]], [[5, THIRTY - 1]])

    def test_somewhat_more_than_bounded_is_not_refused(self):
        self.tells(10 * BEYOND, price_of, [[BEYOND, 0, BEYOND]] * 10, [[0, BEYOND - 1]] * 10)

    def test_no_works(self):
        self.tells(0, price_of, [], [])
