"""Points 4 and 5: the order of works, and ways."""

import itertools

from hastebook.errors import NoOrder
from hastebook.needs import is_way, order_of
from tests.helper import BEYOND, SEVENTY, BookCase, all_needs, all_ways, keeps_needs, no_works, right_needs, wrong_needs


class TestOrder(BookCase):
    def test_no_works(self):
        self.tells([], order_of, 0, [])

    def test_no_needs(self):
        for many in range(1, 9):
            self.tells(list(range(many)), order_of, many, [])

    def test_least_number_first_again_and_again(self):
        self.tells([1, 0, 2, 3], order_of, 4, [[1, 0]])
        self.tells([1, 2, 3, 0], order_of, 4, [[3, 0]])
        self.tells([2, 1, 3, 0, 4], order_of, 5, [[2, 1], [3, 0]])
        self.tells([1, 3, 2, 0, 4], order_of, 5, [[3, 2], [2, 0], [1, 0]])

    def test_works_needed_by_one_and_by_several(self):
        self.tells([1, 2, 3, 0], order_of, 4, [[1, 0], [2, 0], [3, 0]])
        self.tells([3, 0, 1, 2], order_of, 4, [[3, 0], [3, 1], [3, 2]])

    def test_needs_told_more_than_once(self):
        self.tells([2, 0, 1], order_of, 3, [[2, 0], [2, 0], [0, 1], [2, 0], [0, 1]])
        self.tells([1, 0], order_of, 2, [[1, 0]] * 400)

    def test_eight_works(self):
        chain = [[work + 1, work] for work in range(7)]
        self.tells([7, 6, 5, 4, 3, 2, 1, 0], order_of, 8, chain)
        self.tells([0, 2, 4, 6, 7, 5, 3, 1], order_of, 8, [[7, 5], [6, 5], [5, 3], [3, 1]])
        both = [[first, second] for first in range(8) for second in range(first)]
        self.tells([7, 6, 5, 4, 3, 2, 1, 0], order_of, 8, both)

    def test_somewhat_more_than_bounded_is_not_refused(self):
        self.tells([1, 0] + list(range(2, 11)), order_of, 11, [[1, 0]] * 450)

    def test_first_of_all_right_orders_for_all_needs_of_few_works(self):
        for many in range(5):
            for needs in all_needs(many):
                orders = [order for order in itertools.permutations(range(many)) if keeps_needs(order, needs)]
                if orders:
                    self.tells(list(orders[0]), order_of, many, needs)
                else:
                    self.refuses(NoOrder, order_of, many, needs)

    def test_numbers_that_are_no_works(self):
        for many in range(1, 9):
            for number in no_works(many):
                self.refuses(NoOrder, order_of, many, [[number, 0]])
                self.refuses(NoOrder, order_of, many, [[0, number]])

    def test_any_need_is_refused_where_there_are_no_works(self):
        for needs in ([[0, 1]], [[0, 0]], [[-1, 0]], [[SEVENTY, -SEVENTY]]):
            self.refuses(NoOrder, order_of, 0, needs)

    def test_work_that_needs_itself(self):
        for many in range(1, 9):
            for work in range(many):
                self.refuses(NoOrder, order_of, many, [[work, work]])

    def test_rings(self):
        for many in range(2, 9):
            ring = [[work, (work + 1) % many] for work in range(many)]
            self.refuses(NoOrder, order_of, many, ring)
            self.refuses(NoOrder, order_of, many, ring[::-1])
            self.tells(list(range(many)), order_of, many, ring[:-1])

    def test_ring_of_some_of_the_works(self):
        self.refuses(NoOrder, order_of, 8, [[0, 1], [5, 6], [1, 2], [6, 7], [7, 5], [2, 3]])
        self.refuses(NoOrder, order_of, 8, [[6, 7], [7, 6]])
        self.refuses(NoOrder, order_of, 3, [[0, 1], [1, 0]])

    def test_one_wrong_need_wherever_it_stands(self):
        for many in (2, 3, 8):
            for needs in wrong_needs(many):
                self.refuses(NoOrder, order_of, many, needs)


class TestWay(BookCase):
    needs = [[0, 1], [1, 2], [0, 2], [2, 3], [2, 3]]

    def test_one_work(self):
        for work in range(5):
            self.tells(True, is_way, 5, self.needs, [work])
        self.tells(True, is_way, 1, [], [0])

    def test_several_works(self):
        for some in ([0, 1], [1, 2], [0, 2], [2, 3], [0, 1, 2], [0, 2, 3], [1, 2, 3], [0, 1, 2, 3]):
            self.tells(True, is_way, 5, self.needs, some)
        self.tells(True, is_way, 3, [[2, 0], [0, 1]], [2, 0, 1])
        chain = [[work, work + 1] for work in range(7)]
        self.tells(True, is_way, 8, chain, list(range(8)))

    def test_the_list_of_none_is_no_way(self):
        self.tells(False, is_way, 5, self.needs, [])
        self.tells(False, is_way, 0, [], [])

    def test_numbers_that_are_no_works(self):
        for many in (0, 4, 5, 8):
            needs = self.needs if many else []
            for number in no_works(many):
                self.tells(False, is_way, many, needs, [number])
                self.tells(False, is_way, many, needs, [0, number])
                self.tells(False, is_way, many, needs, [number, 0])
                self.tells(False, is_way, many, needs, [0, 1, number])
                self.tells(False, is_way, many, needs, [number, number])

    def test_work_told_twice(self):
        for some in ([0, 0], [0, 0, 1], [0, 1, 1], [0, 1, 0], [0, 1, 2, 0], [4, 4]):
            self.tells(False, is_way, 5, self.needs, some)

    def test_step_by_no_need(self):
        for some in ([0, 4], [4, 0], [0, 1, 4], [1, 4, 2]):
            self.tells(False, is_way, 5, self.needs, some)
        self.tells(False, is_way, 2, [], [0, 1])

    def test_step_by_a_need_turned_round(self):
        for some in ([1, 0], [2, 1], [3, 2], [3, 2, 1, 0], [0, 2, 1]):
            self.tells(False, is_way, 5, self.needs, some)

    def test_way_that_leaves_out_a_work_between(self):
        for some in ([0, 3], [1, 3], [0, 1, 3]):
            self.tells(False, is_way, 5, self.needs, some)

    def test_long_lists_and_numbers(self):
        self.tells(False, is_way, 5, self.needs, [0, 1] * 200)
        self.tells(False, is_way, 5, self.needs, [SEVENTY] * 400)
        self.tells(False, is_way, 5, self.needs, [0] + [BEYOND] * 450)
        long_chain = [[work, work + 1] for work in range(10)]
        self.tells(True, is_way, 11, long_chain, list(range(11)))

    def test_all_lists_of_few_works(self):
        for needs in right_needs(3):
            ways = all_ways(3, needs)
            for size in range(5):
                for some in itertools.product(range(-1, 4), repeat=size):
                    self.tells(list(some) in ways, is_way, 3, needs, list(some))
