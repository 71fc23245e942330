"""Point 15: what is left of works and needs at a moment of a plan, and what was spent by then."""

import itertools

from hastebook.curves import price_at
from hastebook.errors import NoOrder
from hastebook.haste import plan_at
from hastebook.plans import keeps
from hastebook.rests import rest_of, spent
from tests.helper import (
    BEYOND,
    GIVEN_BACK,
    SEVENTY,
    THIRTY,
    BookCase,
    all_ways,
    far_ends,
    great_cases,
    hours_of,
    is_plan,
    least_prices,
    length_of,
    plan_price,
    refused_cases,
    right_needs,
    small_cases,
)

WORKS = [[4, 2, 3], [5, 5, 0], [6, 0, 10], [2, 0, 7]]
NEEDS = [[0, 1], [2, 3], [0, 2], [0, 1]]
# The first work is done at 4, the second at 9, the third at 10; the last has no hours.
PLAN = [[1, 3], [4, 5], [6, 4], [10, 0]]


def states(plan, moment):
    """Of each work how it stands at the moment, by the words of the document and in their order."""
    found = []
    for begin, hours in plan:
        if begin + hours <= moment:
            found.append("done")
        elif begin < moment:
            found.append("begun")
        else:
            found.append("waits")
    return found


def expected_rest(works, needs, plan, moment):
    kept = []
    for work, (begin, hours), state in zip(works, plan, states(plan, moment)):
        left = begin + hours - moment
        kept.append({"done": [0, 0, 0], "begun": [left, left, 0], "waits": list(work)}[state])
    return kept, [list(need) for need in needs if states(plan, moment)[need[0]] != "done"]


def expected_spent(works, plan, moment):
    rows = zip(works, plan, states(plan, moment))
    return sum(price * (usual - row[1]) for (usual, least, price), row, state in rows if state != "waits")


def rest_plan(plan, moment):
    """What is left of the plan itself: it keeps what is left of the end."""
    rows = []
    for (begin, hours), state in zip(plan, states(plan, moment)):
        left = begin + hours - moment
        rows.append({"done": [0, 0], "begun": [0, left], "waits": [begin - moment, hours]}[state])
    return rows


def all_moments(plan):
    """Each moment at which something may turn, one less and one more; 0, and far behind all."""
    turns = [begin for begin, hours in plan] + [begin + hours for begin, hours in plan]
    found = {turn + shift for turn in turns for shift in (-1, 0, 1)} | {0, 1, max(turns, default=0) + 9}
    return sorted(moment for moment in found if moment >= 0)


def early_plan(works, needs, hours):
    """All works with these hours, each begun as early as may be."""
    ways = all_ways(len(works), needs)
    ends = [max(hours_of(way, hours) for way in ways if way[-1] == work) for work in range(len(works))]
    return [[end - took, took] for end, took in zip(ends, hours)]


def late_plan(works, needs, hours, end):
    """All works with these hours, each done as late as may be."""
    ways = all_ways(len(works), needs)
    lefts = [max(hours_of(way, hours) for way in ways if way[0] == work) for work in range(len(works))]
    return [[end - left, took] for left, took in zip(lefts, hours)]


def some_plans(works, needs):
    """Plans that keep an end, dear and cheap ones: with the end that each keeps."""
    ways = all_ways(len(works), needs)
    usual = [work[0] for work in works]
    least = [work[1] for work in works]
    middle = [(work[0] + work[1]) // 2 for work in works]
    mixed = [work[number % 2] for number, work in enumerate(works)]
    for hours in (usual, least, middle, mixed):
        end = length_of(hours, ways)
        yield early_plan(works, needs, hours), end
        yield early_plan(works, needs, hours), end + 3
        yield late_plan(works, needs, hours, end + 2), end + 2


class TestRest(BookCase):
    def left_is(self, works, needs, moment):
        self.tells((works, needs), rest_of, WORKS, NEEDS, PLAN, moment)

    def test_each_moment(self):
        for moment in (0, 1):
            self.left_is(WORKS, NEEDS, moment)
        self.left_is([[2, 2, 0]] + WORKS[1:], NEEDS, 2)
        self.left_is([[1, 1, 0]] + WORKS[1:], NEEDS, 3)
        self.left_is([[0, 0, 0]] + WORKS[1:], [[2, 3]], 4)
        self.left_is([[0, 0, 0], [4, 4, 0]] + WORKS[2:], [[2, 3]], 5)
        self.left_is([[0, 0, 0], [3, 3, 0]] + WORKS[2:], [[2, 3]], 6)
        self.left_is([[0, 0, 0], [2, 2, 0], [3, 3, 0], [2, 0, 7]], [[2, 3]], 7)
        self.left_is([[0, 0, 0], [1, 1, 0], [2, 2, 0], [2, 0, 7]], [[2, 3]], 8)
        self.left_is([[0, 0, 0], [0, 0, 0], [1, 1, 0], [2, 0, 7]], [[2, 3]], 9)
        for moment in (10, 11, 12, SEVENTY, BEYOND):
            self.left_is([[0, 0, 0]] * 4, [], moment)

    def test_what_is_told_is_a_tuple_of_two_lists(self):
        for works, needs, plan in ((WORKS, NEEDS, PLAN), ([], [], [])):
            for moment in (0, 5, 99):
                told = self.ask(rest_of, works, needs, plan, moment)
                self.assertIs(type(told), tuple)
                self.assertEqual([type(part) for part in told], [list, list])
                for row in told[0] + told[1]:
                    self.assertIs(type(row), list)

    def test_inner_lists_are_new(self):
        for moment in range(12):
            works, needs, plan = [list(map(list, rows)) for rows in (WORKS, NEEDS, PLAN)]
            handed = [works, needs, plan, *works, *needs, *plan]
            told = rest_of(works, needs, plan, moment)
            for row in [*told, *told[0], *told[1]]:
                self.assertFalse(any(row is other for other in handed))

    def test_no_works(self):
        for moment in (0, 1, SEVENTY):
            self.tells(([], []), rest_of, [], [], [], moment)
            self.tells(0, spent, [], [], moment)

    def test_one_work(self):
        for moment in (0, 1, 2, 3):
            self.tells(([[8, 3, 5]], []), rest_of, [[8, 3, 5]], [], [[3, 4]], moment)
        for moment in (4, 5, 6):
            self.tells(([[7 - moment, 7 - moment, 0]], []), rest_of, [[8, 3, 5]], [], [[3, 4]], moment)
        for moment in (7, 8, SEVENTY):
            self.tells(([[0, 0, 0]], []), rest_of, [[8, 3, 5]], [], [[3, 4]], moment)

    def test_works_of_no_hours(self):
        # They are done at the very moment at which they begin: there is none at which they are begun.
        for begin in (0, 1, 5):
            for moment in range(8):
                expected = [[0, 0, 0]] if begin <= moment else [[4, 0, 6]]
                self.tells((expected, []), rest_of, [[4, 0, 6]], [], [[begin, 0]], moment)
                self.tells(24 if begin <= moment else 0, spent, [[4, 0, 6]], [[begin, 0]], moment)

    def test_order_of_needs_and_needs_told_again(self):
        needs = [[2, 3], [1, 3], [2, 3], [0, 3], [1, 2], [0, 2], [1, 3]]
        works = [[2, 1, 1], [4, 1, 1], [3, 1, 1], [2, 1, 1]]
        plan = [[0, 2], [0, 4], [4, 3], [7, 2]]
        self.tells((works, needs), rest_of, works, needs, plan, 0)
        for moment, kept in ((1, needs), (2, [[2, 3], [1, 3], [2, 3], [1, 2], [1, 3]]), (4, [[2, 3], [2, 3]]), (7, [])):
            self.assertEqual(self.ask(rest_of, works, needs, plan, moment)[1], kept)
        many = [[0, 3], [2, 3]] * 200
        self.assertEqual(self.ask(rest_of, works, many, plan, 3)[1], [[2, 3]] * 200)

    def test_need_of_a_begun_work_is_kept(self):
        works = [[5, 1, 2], [3, 1, 4]]
        for moment in range(1, 5):
            left = 5 - moment
            self.tells(([[left, left, 0], [3, 1, 4]], [[0, 1]]), rest_of, works, [[0, 1]], [[0, 5], [5, 2]], moment)
        self.tells(([[0, 0, 0], [3, 1, 4]], []), rest_of, works, [[0, 1]], [[0, 5], [5, 2]], 5)

    def test_thirty_and_seventy_figures(self):
        works = [[THIRTY, 0, THIRTY], [THIRTY, THIRTY - 1, 1]]
        plan = [[0, THIRTY - 1], [SEVENTY - THIRTY, THIRTY]]
        self.tells(([[1, 1, 0], works[1]], [[0, 1]]), rest_of, works, [[0, 1]], plan, THIRTY - 2)
        self.tells(([[0, 0, 0], works[1]], []), rest_of, works, [[0, 1]], plan, THIRTY - 1)
        self.tells(([[0, 0, 0], works[1]], []), rest_of, works, [[0, 1]], plan, SEVENTY - THIRTY)
        left = [THIRTY - 1, THIRTY - 1, 0]
        self.tells(([[0, 0, 0], left], []), rest_of, works, [[0, 1]], plan, SEVENTY - THIRTY + 1)
        self.tells(([[0, 0, 0], [1, 1, 0]], []), rest_of, works, [[0, 1]], plan, SEVENTY - 1)
        self.tells(([[0, 0, 0]] * 2, []), rest_of, works, [[0, 1]], plan, SEVENTY)

    def test_few_and_great_works_at_each_moment(self):
        for works, needs in itertools.chain(list(small_cases())[::3], list(great_cases())[::3]):
            for plan, end in some_plans(works, needs):
                for moment in all_moments(plan):
                    self.tells(expected_rest(works, needs, plan, moment), rest_of, works, needs, plan, moment)


class TestSpent(BookCase):
    def test_each_moment(self):
        # One hour of the first for 3, two of the third for 10, and two of the last for 7.
        expected = [0, 0, 3, 3, 3, 3, 3, 23, 23, 23, 37, 37]
        for moment, price in enumerate(expected):
            self.tells(price, spent, WORKS, PLAN, moment)
        for moment in (SEVENTY, BEYOND):
            self.tells(37, spent, WORKS, PLAN, moment)

    def test_one_work(self):
        for moment, price in {0: 0, 3: 0, 4: 20, 6: 20, 7: 20, 8: 20, SEVENTY: 20}.items():
            self.tells(price, spent, [[8, 3, 5]], [[3, 4]], moment)

    def test_usual_hours_and_prices_of_nought(self):
        for moment in (0, 1, 2, 8, SEVENTY):
            self.tells(0, spent, [[8, 3, 5], [6, 1, 0]], [[0, 8], [0, 1]], moment)

    def test_thirty_figures(self):
        works = [[THIRTY, 0, THIRTY], [THIRTY, THIRTY - 1, THIRTY]]
        plan = [[0, 1], [SEVENTY - THIRTY, THIRTY - 1]]
        prices = {0: 0, 1: THIRTY * (THIRTY - 1), SEVENTY - THIRTY: THIRTY * (THIRTY - 1)}
        prices[SEVENTY - THIRTY + 1] = THIRTY ** 2
        prices[SEVENTY] = THIRTY ** 2
        for moment, price in prices.items():
            self.tells(price, spent, works, plan, moment)

    def test_few_and_great_works_at_each_moment(self):
        for works, needs in itertools.chain(small_cases(), great_cases()):
            for plan, end in some_plans(works, needs):
                for moment in all_moments(plan):
                    self.tells(expected_spent(works, plan, moment), spent, works, plan, moment)
                last = all_moments(plan)[-1]
                self.assertEqual(spent(works, plan, last), plan_price(works, plan))


class TestWholePrice(BookCase):
    def rest_price(self, works, needs, plan, moment, end):
        """The least price of the rest for what is left of the end."""
        left_works, left_needs = self.ask(rest_of, works, needs, plan, moment)
        self.assertTrue(is_plan(left_works, left_needs, end - moment, rest_plan(plan, moment)))
        price = self.cheapest(left_works, left_needs, end - moment)
        self.assertEqual(price_at(left_works, left_needs, end - moment), price)
        return price

    def moments_by(self, plan, end):
        return sorted({moment for moment in all_moments(plan) + [end - 1, end] if 0 <= moment <= end})

    def test_an_example(self):
        works, needs = WORKS[:3], [[0, 1], [0, 2]]
        # Dear for the end 10: what was spent is lost, what is not begun need not be hastened.
        plan = [[0, 2], [2, 5], [2, 0]]
        self.assertEqual(plan_price(works, plan), 66)
        self.tells(6, spent, works, plan, 1)
        self.assertEqual(self.rest_price(works, needs, plan, 1, 10), 0)
        # At the moment 2 the third work, of no hours, is done already.
        self.tells(66, spent, works, plan, 2)
        self.assertEqual(self.rest_price(works, needs, plan, 2, 10), 0)

    def test_by_a_search(self):
        for works in ([[2, 0, 1], [2, 0, 2], [2, 0, 3]], [[3, 1, 2], [1, 0, 0], [2, 0, 1]]):
            for needs in right_needs(3):
                for plan, end in some_plans(works, needs):
                    for moment in self.moments_by(plan, end):
                        left = self.ask(rest_of, works, needs, plan, moment)
                        prices = least_prices(*left)
                        price = prices.get(end - moment, 0)
                        self.assertGreaterEqual(end - moment, min(prices))
                        self.assertLessEqual(spent(works, plan, moment) + price, plan_price(works, plan))

    def test_any_plan(self):
        for works, needs in itertools.chain(list(small_cases())[::9], list(great_cases())[::3]):
            for plan, end in some_plans(works, needs):
                self.assertTrue(is_plan(works, needs, end, plan))
                self.assertTrue(keeps(works, needs, end, plan))
                moments = self.moments_by(plan, end)
                for moment in moments[:: 1 + len(moments) // 6] + [end]:
                    price = self.rest_price(works, needs, plan, moment, end)
                    self.assertLessEqual(spent(works, plan, moment) + price, plan_price(works, plan))

    def test_cheapest_plans_of_few_works(self):
        for works, needs in [*list(small_cases())[::3], GIVEN_BACK]:
            prices = least_prices(works, needs)
            for end in [*prices, max(prices) + 1]:
                plan = plan_at(works, needs, end)
                for moment in self.moments_by(plan, end):
                    price = self.rest_price(works, needs, plan, moment, end)
                    self.assertEqual(spent(works, plan, moment) + price, prices.get(end, 0))

    def test_cheapest_plans_of_great_works(self):
        for works, needs in great_cases():
            ways = all_ways(len(works), needs)
            least = length_of([work[1] for work in works], ways)
            free = length_of([usual if price else least for usual, least, price in works], ways)
            for end in far_ends(least, free)[::3]:
                plan = plan_at(works, needs, end)
                moments = self.moments_by(plan, end)
                for moment in moments[:: 1 + len(moments) // 6] + [end]:
                    price = self.rest_price(works, needs, plan, moment, end)
                    self.assertEqual(spent(works, plan, moment) + price, plan_price(works, plan))

    def test_rest_of_the_rest(self):
        for works, needs in itertools.chain(list(small_cases())[::9], list(great_cases())[::5]):
            for plan, end in some_plans(works, needs):
                moments = all_moments(plan)
                for first, second in itertools.combinations_with_replacement(moments[:: 1 + len(moments) // 8], 2):
                    left_works, left_needs = rest_of(works, needs, plan, first)
                    left_plan = rest_plan(plan, first)
                    whole = rest_of(works, needs, plan, second)
                    self.tells(whole, rest_of, left_works, left_needs, left_plan, second - first)


class TestRefusedNeeds(BookCase):
    def test_wrong_needs(self):
        for works, needs in refused_cases():
            right = [[9 * number, work[0]] for number, work in enumerate(works)]
            for plan in (right, right[::-1], [[0, 0]] * len(works), [], [[]], [[-1, 9, 9]] * 10):
                for moment in (0, 1, 5, SEVENTY, BEYOND):
                    self.refuses(NoOrder, rest_of, works, needs, plan, moment)
