"""Points 13 and 14: the least end for a budget, the best end for a bonus, and the stream that shows it."""

from hastebook.curves import corners, price_at
from hastebook.errors import NoOrder
from hastebook.wishes import best_end, best_sum, bonus_stream, end_for
from tests.helper import (
    BEYOND,
    EIGHT_NEEDS,
    GIVEN_BACK,
    SEVENTY,
    THIRTY,
    BookCase,
    all_ways,
    great_cases,
    least_prices,
    length_of,
    made_works,
    refused_cases,
    small_cases,
    stream_worth,
)

WORKS = [[4, 2, 3], [5, 5, 0], [6, 0, 10]]
NEEDS = [[0, 1], [0, 2]]
CORNERS = [[10, 0], [8, 6], [7, 16]]
CHAIN = [[work, work + 1] for work in range(7)]


def least_of(works, needs):
    return length_of([work[1] for work in works], all_ways(len(works), needs))


def steps_of(told):
    """The steps of the pieces between told corners."""
    return [(more - price) // (end - sooner) for (end, price), (sooner, more) in zip(told, told[1:])]


def near(numbers):
    """These numbers, one less and one more, none below 0."""
    return sorted({number + shift for number in numbers for shift in (-1, 0, 1) if number + shift >= 0})


class TestBudget(BookCase):
    def pays_for(self, works, needs, budget):
        """The told end is right by the prices of the ends round it."""
        end = self.ask(end_for, works, needs, budget)
        self.assertIs(type(end), int)
        self.assertLessEqual(self.cheapest(works, needs, end), budget)
        self.assertLessEqual(price_at(works, needs, end), budget)
        if end > least_of(works, needs):
            self.assertGreater(self.cheapest(works, needs, end - 1), budget)
            self.assertGreater(price_at(works, needs, end - 1), budget)
        else:
            self.assertIsNone(price_at(works, needs, end - 1))

    def test_each_budget(self):
        expected = [10, 10, 10, 9, 9, 9, 8, 8, 8, 8, 8, 8, 8, 8, 8, 8, 7, 7, 7]
        for budget, end in enumerate(expected):
            self.tells(end, end_for, WORKS, NEEDS, budget)
            self.tells(end, end_for, WORKS, NEEDS * 200, budget)
        for budget in (99, THIRTY, SEVENTY, BEYOND):
            self.tells(7, end_for, WORKS, NEEDS, budget)

    def test_hours_that_are_given_back(self):
        ends = {0: 12, 2: 12, 3: 11, 5: 11, 6: 10, 10: 10, 11: 9, 16: 8, 23: 8, 24: 7, 43: 7, 44: 6, 66: 6, 67: 5}
        for budget, end in ends.items():
            self.tells(end, end_for, *GIVEN_BACK, budget)

    def test_no_works(self):
        for budget in (0, 1, 7, THIRTY, SEVENTY):
            self.tells(0, end_for, [], [], budget)

    def test_one_work(self):
        for budget in range(30):
            self.tells(max(8 - budget // 5, 3), end_for, [[8, 3, 5]], [], budget)
        self.tells(3, end_for, [[8, 3, 5]], [], SEVENTY)

    def test_both_ends_the_same(self):
        for budget in (0, 1, THIRTY, SEVENTY):
            self.tells(8, end_for, [[8, 8, 5]], [], budget)
            self.tells(3, end_for, [[8, 3, 0]], [], budget)
            self.tells(0, end_for, [[9, 0, 0]] * 8, CHAIN, budget)
            self.tells(5, end_for, [[5, 5, 0], [5, 1, 2]], [], budget)

    def test_least_end_nought(self):
        for budget, end in {0: 3, 1: 3, 2: 2, 3: 2, 4: 1, 5: 1, 6: 0, 7: 0, SEVENTY: 0}.items():
            self.tells(end, end_for, [[3, 0, 2]], [], budget)

    def test_thirty_figures(self):
        works = [[THIRTY, 0, THIRTY], [THIRTY, THIRTY - 1, 1]]
        ends = {
            0: 2 * THIRTY,
            1: 2 * THIRTY - 1,
            THIRTY: 2 * THIRTY - 1,
            THIRTY + 1: 2 * THIRTY - 2,
            THIRTY ** 2: THIRTY,
            THIRTY ** 2 + 1: THIRTY - 1,
            SEVENTY: THIRTY - 1,
        }
        for budget, end in ends.items():
            self.tells(end, end_for, works, [[0, 1]], budget)

    def test_few_works_by_a_search(self):
        for works, needs in small_cases():
            prices = least_prices(works, needs)
            highest = max(prices.values())
            for budget in [*range(highest + 2), highest + SEVENTY]:
                end = min(end for end, price in prices.items() if price <= budget)
                self.tells(end, end_for, works, needs, budget)

    def test_corners_of_small_hours(self):
        for needs in EIGHT_NEEDS:
            works = made_works(8, 3, 9, 6)
            told = corners(works, needs)
            between = [(price + more) // 2 for (end, price), (sooner, more) in zip(told, told[1:])]
            for budget in near([price for end, price in told] + between):
                self.pays_for(works, needs, budget)

    def test_great_works(self):
        for works, needs in great_cases():
            told = corners(works, needs)
            for end, price in told:
                self.tells(end, end_for, works, needs, price)
            between = [(price + more) // 2 for (end, price), (sooner, more) in zip(told, told[1:])]
            prices = [told[0][1], told[1][1], told[-1][1]] if len(told) > 1 else [told[0][1]]
            for budget in near(prices + between[:1] + between[-1:]):
                self.pays_for(works, needs, budget)
            for budget in (told[-1][1] + 1, told[-1][1] + SEVENTY):
                self.tells(told[-1][0], end_for, works, needs, budget)


class TestBonus(BookCase):
    def best_are(self, end, total, works, needs, bonus):
        self.tells(end, best_end, works, needs, bonus)
        self.tells(total, best_sum, works, needs, bonus)
        self.shown(total, works, needs, bonus)

    def shown(self, total, works, needs, bonus):
        """The stream shows that no plan has a lesser sum: it is a stream, of the bonus, and worth so much."""
        rows = self.ask(bonus_stream, works, needs, bonus)
        self.is_right_stream(works, needs, rows)
        if bonus == 0 or not works:
            self.assertEqual(rows, [])
        else:
            self.assertEqual(sum(row[0] for row in rows), bonus, (works, needs))
        self.assertEqual(stream_worth(works, rows, 0), total, (works, needs, bonus, rows))

    def sums_are_right(self, works, needs, bonus):
        """The sum of the told end is told, the stream shows that none is less, and the moment ahead has more."""
        end = self.ask(best_end, works, needs, bonus)
        total = self.cheapest(works, needs, end) + bonus * end
        self.best_are(end, total, works, needs, bonus)
        if end > least_of(works, needs):
            self.assertGreater(self.cheapest(works, needs, end - 1) + bonus * (end - 1), total)
        else:
            self.assertIsNone(price_at(works, needs, end - 1))
        self.assertEqual(total, min(price + bonus * corner for corner, price in corners(works, needs)))

    def test_each_bonus(self):
        ends = {0: 10, 1: 10, 2: 10, 3: 8, 4: 8, 9: 8, 10: 7, 11: 7, THIRTY: 7, SEVENTY: 7, BEYOND: 7}
        for bonus, end in ends.items():
            total = min(price + bonus * corner for corner, price in CORNERS)
            self.best_are(end, total, WORKS, NEEDS, bonus)
            self.best_are(end, total, WORKS, NEEDS * 200, bonus)

    def test_sums_that_are_alike(self):
        # For a bonus just as great as a step, the ends of that piece have like sums: the least of them is told.
        self.best_are(8, 30, WORKS, NEEDS, 3)
        self.best_are(7, 86, WORKS, NEEDS, 10)
        self.best_are(3, 40, [[8, 3, 5]], [], 5)
        self.best_are(0, 18, [[4, 0, 2], [5, 0, 2]], [[0, 1]], 2)

    def test_hours_that_are_given_back(self):
        told = [[12, 0], [10, 6], [8, 16], [7, 24], [6, 44], [5, 67]]
        ends = {0: 12, 2: 12, 3: 10, 4: 10, 5: 8, 7: 8, 8: 7, 19: 7, 20: 6, 22: 6, 23: 5, 24: 5, SEVENTY: 5}
        for bonus, end in ends.items():
            self.best_are(end, min(price + bonus * corner for corner, price in told), *GIVEN_BACK, bonus)

    def test_no_works(self):
        for bonus in (0, 1, 7, THIRTY, SEVENTY):
            self.best_are(0, 0, [], [], bonus)
            self.tells([], bonus_stream, [], [], bonus)

    def test_bonus_of_nought(self):
        for works, needs in ((WORKS, NEEDS), GIVEN_BACK, ([[8, 3, 0]], []), ([[0, 0, 4]] * 8, CHAIN)):
            free = length_of([usual if price else least for usual, least, price in works], all_ways(len(works), needs))
            self.best_are(free, 0, works, needs, 0)
            self.tells([], bonus_stream, works, needs, 0)

    def test_one_work(self):
        for bonus in range(5):
            self.best_are(8, 8 * bonus, [[8, 3, 5]], [], bonus)
        for bonus in (5, 6, 99, SEVENTY):
            self.best_are(3, 25 + 3 * bonus, [[8, 3, 5]], [], bonus)

    def test_both_ends_the_same(self):
        for bonus in (0, 1, 5, THIRTY, SEVENTY):
            self.best_are(8, 8 * bonus, [[8, 8, 5]], [], bonus)
            self.best_are(3, 3 * bonus, [[8, 3, 0]], [], bonus)
            self.best_are(5, 5 * bonus, [[5, 5, 0], [5, 1, 2]], [], bonus)

    def test_works_of_no_hours(self):
        for bonus in (0, 1, 5, SEVENTY):
            self.best_are(0, 0, [[0, 0, 4], [0, 0, 0]], [[1, 0]], bonus)
            self.best_are(0, 0, [[9, 0, 0]] * 8, CHAIN, bonus)

    def test_least_end_nought(self):
        for bonus, end in {0: 3, 1: 3, 2: 0, 3: 0, SEVENTY: 0}.items():
            self.best_are(end, 3 * bonus if end else 6, [[3, 0, 2]], [], bonus)

    def test_bonus_greater_than_all_steps(self):
        works = [[9, 0, 1], [9, 2, 2], [9, 0, 4], [9, 1, 8]]
        self.best_are(9, 9 * 14, works, [], 14)
        for bonus in (15, 16, 1000, THIRTY, SEVENTY, BEYOND):
            self.best_are(2, 7 * 15 + 2 * bonus, works, [], bonus)
        # One behind the other: the two that can be hastened cost 2 times 8 and 5 times 5.
        self.best_are(8, 41 + 8 * SEVENTY, [[5, 3, 8], [4, 4, 0], [6, 1, 5]], [[0, 1], [2, 0]], SEVENTY)

    def test_thirty_figures(self):
        works = [[THIRTY, 0, THIRTY], [THIRTY, THIRTY - 1, 1]]
        for bonus, end in {0: 2 * THIRTY, 1: 2 * THIRTY - 1, THIRTY - 1: 2 * THIRTY - 1, THIRTY: THIRTY - 1}.items():
            price = {2 * THIRTY: 0, 2 * THIRTY - 1: 1, THIRTY - 1: 1 + THIRTY ** 2}[end]
            self.best_are(end, price + bonus * end, works, [[0, 1]], bonus)
        self.best_are(THIRTY - 1, 1 + THIRTY ** 2 + SEVENTY * (THIRTY - 1), works, [[0, 1]], SEVENTY)
        self.best_are(0, 8 * THIRTY ** 2, [[THIRTY, 0, THIRTY]] * 8, [], SEVENTY)
        self.best_are(THIRTY, THIRTY ** 2, [[THIRTY, 0, THIRTY]] * 8, [], THIRTY)

    def test_few_works_by_a_search(self):
        for works, needs in small_cases():
            prices = least_prices(works, needs)
            steps = [prices[end - 1] - prices[end] for end in sorted(prices)[1:]]
            for bonus in near([0, *steps]) + [SEVENTY]:
                sums = {end: price + bonus * end for end, price in prices.items()}
                total = min(sums.values())
                self.best_are(min(end for end in sums if sums[end] == total), total, works, needs, bonus)

    def test_steps_of_small_hours(self):
        for needs in EIGHT_NEEDS:
            works = made_works(8, 4, 9, 6)
            for bonus in near([0, *steps_of(corners(works, needs))]) + [SEVENTY]:
                self.sums_are_right(works, needs, bonus)

    def test_great_works(self):
        for works, needs in great_cases():
            steps = steps_of(corners(works, needs))
            for bonus in near([0] + steps[:1] + steps[-1:] + [sum(steps) // 3]) + [THIRTY, SEVENTY]:
                self.sums_are_right(works, needs, bonus)


class TestRefusedNeeds(BookCase):
    def test_wrong_needs(self):
        for works, needs in refused_cases():
            for number in (0, 1, 5, THIRTY, SEVENTY, BEYOND):
                for call in (end_for, best_end, best_sum, bonus_stream):
                    self.refuses(NoOrder, call, works, needs, number)
