"""Points 6 and 7: earliest and latest begins, lengths, spare hours and longest ways."""

import itertools

from hastebook.errors import NoOrder, NoRoom
from hastebook.moments import earliest, latest, length, longest, spare
from tests.helper import BEYOND, SEVENTY, THIRTY, BookCase, all_ways, hours_of, right_needs, wrong_needs

# Work 3 needs both 1 and 2, these need 0; work 4 stands by itself.
HOURS = [2, 5, 3, 4, 1]
NEEDS = [[0, 1], [0, 2], [1, 3], [2, 3]]


def small_cases():
    """Hours and needs of few works, many hours of three works and some of four."""
    for many in range(4):
        for needs in right_needs(many):
            for hours in itertools.product(range(3), repeat=many):
                yield list(hours), needs
    for needs in right_needs(4):
        for hours in ([0, 0, 0, 0], [1, 1, 1, 1], [2, 0, 3, 1], [THIRTY, 1, THIRTY - 1, 0]):
            yield list(hours), needs


class TestEarliest(BookCase):
    def test_begins_and_length(self):
        self.tells([0, 2, 2, 7, 0], earliest, HOURS, NEEDS)
        self.tells(11, length, HOURS, NEEDS)

    def test_no_works(self):
        self.tells([], earliest, [], [])
        self.tells(0, length, [], [])

    def test_no_needs(self):
        self.tells([0, 0, 0], earliest, [4, 9, 2], [])
        self.tells(9, length, [4, 9, 2], [])

    def test_no_hours(self):
        self.tells([0, 0, 0], earliest, [0, 0, 0], [[0, 1], [1, 2]])
        self.tells(0, length, [0, 0, 0], [[0, 1], [1, 2]])
        self.tells([0, 3, 3], earliest, [3, 0, 0], [[0, 1], [1, 2]])
        self.tells(3, length, [3, 0, 0], [[0, 1], [1, 2]])

    def test_needs_told_more_than_once(self):
        self.tells([0, 2, 2, 7, 0], earliest, HOURS, NEEDS * 3)
        self.tells(11, length, HOURS, NEEDS * 100)

    def test_needs_from_greater_to_lesser_numbers(self):
        self.tells([9, 4, 0], earliest, [1, 5, 4], [[1, 0], [2, 1]])
        self.tells(10, length, [1, 5, 4], [[1, 0], [2, 1]])

    def test_greatest_of_several_needed_works(self):
        for needs in itertools.permutations([[0, 3], [1, 3], [2, 3]]):
            self.tells([0, 0, 0, 7], earliest, [4, 7, 6, 1], list(needs))

    def test_the_last_work_done_is_not_the_last_begun(self):
        self.tells(20, length, [1, 1, 20], [[0, 1]])

    def test_hours_of_thirty_figures(self):
        chain = [[work, work + 1] for work in range(7)]
        self.tells([work * THIRTY for work in range(8)], earliest, [THIRTY] * 8, chain)
        self.tells(8 * THIRTY, length, [THIRTY] * 8, chain)
        self.tells([0, THIRTY], earliest, [THIRTY, 1], [[0, 1]])
        self.tells(THIRTY + 1, length, [THIRTY, 1], [[0, 1]])

    def test_somewhat_more_than_bounded_is_not_refused(self):
        self.tells([0, BEYOND] + [0] * 8, earliest, [BEYOND, 1] + [0] * 8, [[0, 1]] * 450)
        self.tells(BEYOND + 1, length, [BEYOND, 1] + [0] * 8, [[0, 1]] * 450)

    def test_by_all_ways_of_few_works(self):
        for hours, needs in small_cases():
            ways = all_ways(len(hours), needs)
            begins = [
                max(hours_of(way[:-1], hours) for way in ways if way[-1] == work) for work in range(len(hours))
            ]
            self.tells(begins, earliest, hours, needs)
            self.tells(max([hours_of(way, hours) for way in ways], default=0), length, hours, needs)


class TestLatest(BookCase):
    def test_the_length_as_end(self):
        self.tells([0, 2, 4, 7, 10], latest, HOURS, NEEDS, 11)
        self.tells([0, 0, 2, 0, 10], spare, HOURS, NEEDS, 11)

    def test_greater_ends(self):
        self.tells([1, 3, 5, 8, 11], latest, HOURS, NEEDS, 12)
        self.tells([1, 1, 3, 1, 11], spare, HOURS, NEEDS, 12)
        self.tells([89, 91, 93, 96, 99], latest, HOURS, NEEDS, 100)
        self.tells([89, 89, 91, 89, 99], spare, HOURS, NEEDS, 100)

    def test_end_of_seventy_figures_and_beyond(self):
        for end in (SEVENTY, BEYOND):
            self.tells([end - 5, end - 3], latest, [2, 3], [[0, 1]], end)
            self.tells([end - 5, end - 5], spare, [2, 3], [[0, 1]], end)

    def test_too_small_ends(self):
        for end in (10, 1, 0, -1, -SEVENTY, -BEYOND):
            self.refuses(NoRoom, latest, HOURS, NEEDS, end)
            self.refuses(NoRoom, spare, HOURS, NEEDS, end)

    def test_end_too_small_for_a_work_by_itself_alone(self):
        self.refuses(NoRoom, latest, [1, 1, 9], [[0, 1]], 8)
        self.refuses(NoRoom, spare, [1, 1, 9], [[0, 1]], 8)
        self.tells([7, 8, 0], latest, [1, 1, 9], [[0, 1]], 9)

    def test_no_works(self):
        for end in (0, 1, SEVENTY):
            self.tells([], latest, [], [], end)
            self.tells([], spare, [], [], end)
        for end in (-1, -2, -SEVENTY):
            self.refuses(NoRoom, latest, [], [], end)
            self.refuses(NoRoom, spare, [], [], end)

    def test_no_hours(self):
        self.tells([0, 0], latest, [0, 0], [[0, 1]], 0)
        self.tells([0, 0], spare, [0, 0], [[0, 1]], 0)
        self.tells([5, 5], latest, [0, 0], [[0, 1]], 5)
        self.tells([5, 5], spare, [0, 0], [[0, 1]], 5)
        self.refuses(NoRoom, latest, [0, 0], [[0, 1]], -1)
        self.refuses(NoRoom, spare, [0, 0], [[0, 1]], -1)

    def test_needs_told_more_than_once(self):
        self.tells([0, 2, 4, 7, 10], latest, HOURS, NEEDS * 100, 11)
        self.tells([0, 0, 2, 0, 10], spare, HOURS, NEEDS * 3, 11)

    def test_hours_of_thirty_figures(self):
        self.tells([1, THIRTY + 1], latest, [THIRTY, THIRTY], [[0, 1]], 2 * THIRTY + 1)
        self.tells([1, 1], spare, [THIRTY, THIRTY], [[0, 1]], 2 * THIRTY + 1)
        self.refuses(NoRoom, latest, [THIRTY, THIRTY], [[0, 1]], 2 * THIRTY - 1)
        self.refuses(NoRoom, spare, [THIRTY, THIRTY], [[0, 1]], 2 * THIRTY - 1)

    def test_by_all_ways_of_few_works(self):
        for hours, needs in small_cases():
            ways = all_ways(len(hours), needs)
            numbers = range(len(hours))
            behind = [max(hours_of(way, hours) for way in ways if way[0] == work) for work in numbers]
            ahead = [max(hours_of(way[:-1], hours) for way in ways if way[-1] == work) for work in numbers]
            whole = max([hours_of(way, hours) for way in ways], default=0)
            for end in (whole, whole + 1, whole + 7):
                self.tells([end - behind[work] for work in numbers], latest, hours, needs, end)
                self.tells([end - behind[work] - ahead[work] for work in numbers], spare, hours, needs, end)
            self.refuses(NoRoom, latest, hours, needs, whole - 1)
            self.refuses(NoRoom, spare, hours, needs, whole - 1)


class TestLongest(BookCase):
    def is_longest(self, hours, needs):
        way = self.ask(longest, hours, needs)
        ways = all_ways(len(hours), needs)
        self.assertIn(way, ways)
        self.assertTrue(all(type(work) is int for work in way))
        self.assertEqual(hours_of(way, hours), max(hours_of(other, hours) for other in ways))
        self.assertEqual(hours_of(way, hours), length(hours, needs))

    def test_the_only_longest_way(self):
        self.tells([0, 1, 3], longest, HOURS, NEEDS)
        self.tells([0, 1, 3], longest, HOURS, NEEDS * 3)
        self.tells([2, 1, 0], longest, [1, 5, 4], [[1, 0], [2, 1]])
        self.tells([2], longest, [1, 1, 20], [[0, 1]])

    def test_no_works(self):
        self.tells([], longest, [], [])

    def test_no_hours(self):
        self.is_longest([0], [])
        self.is_longest([0, 0, 0], [])
        self.is_longest([0, 0, 0], [[0, 1], [1, 2]])
        self.is_longest([0, 3, 0], [[0, 1], [1, 2]])

    def test_several_longest_ways(self):
        self.is_longest([1, 4, 4, 1], [[0, 1], [0, 2], [1, 3], [2, 3]])
        self.is_longest([3, 3, 3], [])

    def test_hours_of_thirty_figures_and_beyond(self):
        self.is_longest([THIRTY, THIRTY - 1, THIRTY, 1], [[0, 1], [2, 3], [0, 3]])
        self.is_longest([BEYOND, 0, BEYOND] + [1] * 7, [[0, 1], [1, 2]] * 200)

    def test_eight_works(self):
        chain = [[work + 1, work] for work in range(7)]
        self.tells([7, 6, 5, 4, 3, 2, 1, 0], longest, [1] * 8, chain)

    def test_few_works(self):
        for hours, needs in small_cases():
            if hours:
                self.is_longest(hours, needs)


class TestRefusedNeeds(BookCase):
    def all_refuse(self, hours, needs):
        self.refuses(NoOrder, earliest, hours, needs)
        self.refuses(NoOrder, length, hours, needs)
        self.refuses(NoOrder, longest, hours, needs)
        # Also for ends that are too small: NoOrder goes ahead of NoRoom.
        for end in (BEYOND, 5, 0, -1, -SEVENTY):
            self.refuses(NoOrder, latest, hours, needs, end)
            self.refuses(NoOrder, spare, hours, needs, end)

    def test_wrong_needs(self):
        for hours in ([1, 2], [0, 0, 0], [THIRTY] * 8):
            for needs in wrong_needs(len(hours)):
                self.all_refuse(hours, needs)

    def test_ring_of_more_works(self):
        self.all_refuse([1, 2, 3, 4], [[0, 1], [1, 2], [2, 3], [3, 1]])

    def test_any_need_where_there_are_no_works(self):
        self.all_refuse([], [[0, 0]])
        self.all_refuse([], [[0, 1]])
        self.all_refuse([], [[-1, SEVENTY]])
