"""What all tests of the program share: asking it with care, works and needs to walk, and what is right of them.

What is right is told here by the document's words alone, and never by asking the program itself.
"""

import copy
import itertools
import re
import unittest

from hastebook.books import Book
from hastebook.errors import BookError, NoName, NoOrder, NoRoom, NoRow, NoText
from hastebook.haste import plan_at, stream_at

REFUSALS = (NoOrder, NoRoom, NoRow, NoName, NoText)

THIRTY = 10 ** 30 - 1
SEVENTY = 10 ** 70 - 1
# Lies beyond every bound of the document, and is still not to be refused for it.
BEYOND = 10 ** 90


def no_works(many):
    """Numbers that are no work, of which some would still be an index from the right."""
    return [-1, -many, -many - 1, many, many + 1, SEVENTY, -SEVENTY, BEYOND, -BEYOND]


def lists_in(answer):
    """The told lists of an answer, those within one another too."""
    found = [answer] if isinstance(answer, list) else []
    if isinstance(answer, (list, tuple)):
        for thing in answer:
            found += lists_in(thing)
    return found


def spoil(answer):
    """Change all told lists as their asker may."""
    for told in lists_in(answer):
        told.reverse()
        told.append(-77)
        told[0] = -78


def all_needs(many):
    """Every set of needs between different works, those that run in a ring too."""
    pairs = [[first, second] for first in range(many) for second in range(many) if first != second]
    for chosen in itertools.product((False, True), repeat=len(pairs)):
        yield [list(pair) for pair, taken in zip(pairs, chosen) if taken]


def keeps_needs(order, needs):
    return all(order.index(first) < order.index(second) for first, second in needs)


def right_needs(many):
    """Every set of needs that is not refused."""
    for needs in all_needs(many):
        if any(keeps_needs(order, needs) for order in itertools.permutations(range(many))):
            yield needs


def all_ways(many, needs):
    """Every way, found by stepping on from each work as long as a need leads on."""
    steps = {tuple(need) for need in needs}
    ways = []
    fresh = [[work] for work in range(many)]
    while fresh:
        ways += fresh
        fresh = [way + [work] for way in fresh for work in range(many) if (way[-1], work) in steps]
    return ways


def wrong_needs(many):
    """Needs among two works or more that are refused, the wrong ones at every place in the list."""
    right = [[0, 1], [0, 1]]
    wrong = [[[work, work]] for work in range(many)] + [[[1, 0]]]
    # Rings of three works and more, closed by their last need.
    wrong += [[[work, work + 1] for work in range(1, last)] + [[last, 0]] for last in range(2, many)]
    wrong += [[[number, 1]] for number in no_works(many)]
    wrong += [[[0, number]] for number in no_works(many)]
    wrong += [[[number, number]] for number in no_works(many)]
    for rows in wrong:
        for place in range(len(right) + 1):
            yield copy.deepcopy(right[:place] + rows + right[place:])


def refused_cases():
    """Works with needs that are refused: each kind of wrong ones, at every place, among few works and among eight."""
    for number in [0] + no_works(0):
        yield [], [[number, 0]]
        yield [], [[0, number]]
    for number in [0] + no_works(1):
        yield [[3, 1, 1]], [[number, 0]]
        yield [[3, 1, 1]], [[0, number]]
    for works in ([[4, 2, 3], [5, 5, 0]], [[0, 0, 0]] * 3, [[THIRTY, 0, THIRTY]] * 8):
        for needs in wrong_needs(len(works)):
            yield copy.deepcopy(works), needs
    for many in range(2, 9):
        ring = [[work, (work + 1) % many] for work in range(many)]
        for place in range(many):
            yield [[2, 1, 1]] * many, copy.deepcopy(ring[place:] + ring[:place])
    # Here the work that all others need stands in no ring.
    yield [[2, 1, 1]] * 4, [[0, 1], [1, 2], [2, 3], [3, 1]]


def hours_of(way, hours):
    return sum(hours[work] for work in way)


def length_of(hours, ways):
    return max([hours_of(way, hours) for way in ways], default=0)


def is_plan(works, needs, end, plan):
    """Point 8, clause by clause."""
    if end < 0 or len(plan) != len(works) or any(len(row) != 2 for row in plan):
        return False
    rows = list(zip(works, plan))
    return (
        all(begin >= 0 for work, (begin, hours) in rows)
        and all(least <= hours <= usual for (usual, least, price), (begin, hours) in rows)
        and all(begin + hours <= end for work, (begin, hours) in rows)
        and all(plan[first][0] + plan[first][1] <= plan[second][0] for first, second in needs)
    )


def plan_price(works, plan):
    return sum(price * (usual - hours) for (usual, least, price), (begin, hours) in zip(works, plan))


def stream_worth(works, rows, end):
    """Point 10 by the words in its brackets: the least is at the usual hours or at the least ones."""
    total = -end * sum(row[0] for row in rows)
    for number, (usual, least, price) in enumerate(works):
        amount = sum(row[0] for row in rows if number in row[1:])
        total += min(amount * usual, price * (usual - least) + amount * least)
    return total


def least_prices(works, needs):
    """The least price for each end from the least one on, by a search over all hours; the last has price 0."""
    ways = all_ways(len(works), needs)
    found = {}
    for hours in itertools.product(*[range(least, usual + 1) for usual, least, price in works]):
        end = length_of(hours, ways)
        price = plan_price(works, [[0, took] for took in hours])
        found[end] = min(price, found.get(end, price))
    prices = {}
    for end in range(min(found), max(found) + 1):
        prices[end] = min(price for other, price in found.items() if other <= end)
        if prices[end] == 0:
            return prices


def expected_corners(prices):
    """The corners of least prices that were found by a search."""
    ends = sorted(prices, reverse=True)
    steps = [prices[end - 1] - prices[end] for end in ends[:-1]]
    kept = [end for end, ahead, behind in zip(ends[1:], steps, steps[1:]) if ahead != behind]
    return [[end, prices[end]] for end in sorted({ends[0], ends[-1], *kept}, reverse=True)]


def price_between(told, end):
    """What told corners say of an end from the last one's on."""
    if end >= told[0][0]:
        return 0
    for (later, price), (sooner, more) in zip(told, told[1:]):
        if sooner <= end:
            return price + (more - price) * (later - end) // (later - sooner)


def all_kinds(hours, price):
    """Every work with no more hours and no greater price than these."""
    for usual in range(hours + 1):
        for least in range(usual + 1):
            for one in range(price + 1):
                yield [usual, least, one]


def small_cases():
    """Few works with small hours and prices, with all needs of them."""
    yield [], []
    for work in all_kinds(3, 2):
        yield [work], []
    for pair in itertools.product(all_kinds(2, 1), repeat=2):
        for needs in right_needs(2):
            yield [list(work) for work in pair], needs
    threes = (
        [[2, 0, 1], [2, 0, 2], [2, 0, 3]],
        [[3, 1, 2], [1, 0, 0], [2, 0, 1]],
        [[1, 1, 5], [3, 0, 4], [3, 0, 1]],
        [[2, 2, 0], [2, 0, 0], [1, 0, 3]],
        [[0, 0, 0], [3, 1, 1], [3, 2, 1]],
        [[3, 0, 1], [3, 0, 1], [3, 0, 1]],
    )
    for works in threes:
        for needs in right_needs(3):
            yield copy.deepcopy(works), needs
    for needs in right_needs(4):
        yield [[2, 0, 3], [2, 1, 1], [1, 0, 2], [2, 0, 2]], needs
    yield copy.deepcopy(GIVEN_BACK)


# For the ends 9 and 8 work 2 has to get hours back that were saved for the ends 11 and 10.
GIVEN_BACK = (
    [[4, 1, 4], [6, 4, 10], [4, 2, 3], [6, 4, 10], [4, 1, 4]],
    [[0, 2], [0, 3], [2, 4], [1, 4]],
)

# Needs of eight works: none, one behind the other, each behind all ahead of it, four layers, a saw,
# and two lots beside one another with works that lead from the one to the other.
EIGHT_NEEDS = (
    [],
    [[work, work + 1] for work in range(7)],
    [[first, second] for second in range(8) for first in range(second)],
    [[first, second] for first in range(8) for second in range(8) if second // 2 == first // 2 + 1],
    [[0, 4], [0, 5], [1, 5], [1, 6], [2, 6], [2, 7], [3, 7], [3, 4]],
    [[7, 6], [6, 5], [5, 4], [3, 2], [2, 1], [1, 0], [7, 2], [3, 5], [6, 0], [3, 5]],
)


def made_numbers(seed, most):
    """Numbers from 0 to the most one, the same ones at every run."""
    while True:
        seed = (seed * 6364136223846793005 + 1442695040888963407) % 2 ** 64
        yield (seed >> 20) * most // 2 ** 44


def made_works(many, seed, hours, price):
    some_hours = made_numbers(seed, hours)
    some_prices = made_numbers(seed + 1, price)
    works = []
    for work in range(many):
        pair = sorted([next(some_hours), next(some_hours)])
        works.append([pair[1], pair[0], next(some_prices)])
    return works


def great_cases():
    """Eight works, with hours and prices from small ones to those of thirty figures; and somewhat more of both."""
    for seed, needs in enumerate(EIGHT_NEEDS):
        for hours, price in ((40, 5), (10 ** 6, 90), (THIRTY, 9), (9, THIRTY), (THIRTY, THIRTY)):
            yield made_works(8, seed, hours, price), copy.deepcopy(needs)
        yield [[THIRTY, 0, THIRTY - work] for work in range(8)], copy.deepcopy(needs)
        yield [[THIRTY - work, work, 0 if work % 3 else THIRTY] for work in range(8)], copy.deepcopy(needs)
    works, needs = GIVEN_BACK
    part = THIRTY // 10
    yield [[usual * part, least * part, price * part] for usual, least, price in works], needs * 80
    yield made_works(10, 5, BEYOND, BEYOND), [[first, second] for second in range(10) for first in range(second)] * 10


def far_ends(least, free):
    """Ends from the least one on where what is told may turn."""
    between = [least + (free - least) * part // 7 for part in range(8)]
    ends = {least, least + 1, free, free + 1, free + SEVENTY, *between}
    return sorted(ends | {end for end in (free - 1,) if end >= least})


def short_ends(least):
    """Ends below the least one."""
    ends = {least - 1, least - 2, -1, -2, -SEVENTY, -BEYOND}
    return sorted(ends | {end for end in (0, 1, least // 2) if end < least})


class BookCase(unittest.TestCase):
    def ask(self, call, *given):
        """The answer of a second asking, round which the first one's was kept and then changed (point 2)."""
        before = copy.deepcopy(given)
        first = call(*given)
        self.assertEqual(given, before)
        kept = copy.deepcopy(first)
        second = call(*given)
        self.assertEqual(given, before)
        self.assertEqual(first, kept, "a later asking changed what was told")
        if isinstance(first, (list, tuple)):
            told = lists_in(first)
            self.assertEqual(len({id(one) for one in told}), len(told), "one list was told at two places")
            kept = copy.deepcopy(second)
            spoil(first)
            self.assertEqual(given, before, "what was told is what was handed in")
            self.assertEqual(second, kept, "what was told is what was told ahead of it")
            second = call(*given)
        self.assertIsNot(second, None)
        return second

    def tells(self, expected, call, *given):
        answer = self.ask(call, *given)
        self.assertEqual(answer, expected, given)
        self.assertIs(type(answer), type(expected))
        if isinstance(answer, (list, tuple)):
            self.whole_numbers(answer)

    def tells_none(self, call, *given):
        before = copy.deepcopy(given)
        for asking in range(2):
            self.assertIsNone(call(*given), given)
            self.assertEqual(given, before)

    def whole_numbers(self, answer):
        """Within a told list or tuple stand lists and whole numbers alone."""
        for thing in answer:
            if type(thing) is list:
                self.whole_numbers(thing)
            else:
                self.assertIs(type(thing), int)

    def is_right_stream(self, works, needs, rows):
        self.whole_numbers(rows)
        ways = all_ways(len(works), needs)
        self.assertTrue(all(row[0] >= 1 and row[1:] in ways for row in rows), (works, needs, rows))

    def cheapest(self, works, needs, end):
        """The least price for an end: a plan that keeps it costs that much, and a stream is worth that much."""
        given = (works, needs, end)
        plan = self.ask(plan_at, *given)
        rows = self.ask(stream_at, *given)
        self.whole_numbers(plan)
        self.assertTrue(is_plan(works, needs, end, plan), (given, plan))
        self.is_right_stream(works, needs, rows)
        self.assertEqual(plan_price(works, plan), stream_worth(works, rows, end), (given, plan, rows))
        return plan_price(works, plan)

    def refuses(self, refusal, call, *given):
        before = copy.deepcopy(given)
        with self.assertRaises(refusal, msg=str(given)) as caught:
            call(*given)
        self.assertIsInstance(caught.exception, BookError)
        self.assertIsInstance(caught.exception, ValueError)
        for other in REFUSALS:
            self.assertEqual(isinstance(caught.exception, other), other is refusal)
        self.assertEqual(given, before)


# Behind each first word what the further words are: a name, a work's name, a number's text.
ROW_WORDS = {
    "work": ("name", "number", "number", "number"),
    "need": ("standing", "standing"),
    "free": ("standing", "standing"),
    "drop": ("standing",),
    "names": (),
    "show": ("standing",),
    "ends": (),
    "price": ("number",),
    "plan": ("number",),
    "why": ("number",),
    "curve": (),
    "spare": ("number",),
    "budget": ("number",),
    "bonus": ("number",),
}


class Mirror:
    """What a book should keep, and what it should refuse: points 16 and 17."""

    def __init__(self):
        self.names = []
        self.works = []
        self.pairs = set()

    def needs(self):
        return sorted([self.names.index(first), self.names.index(second)] for first, second in self.pairs)

    def refusal_of(self, row):
        first, *words = row.split(" ")
        if first not in ROW_WORDS or len(words) != len(ROW_WORDS[first]):
            return NoRow
        for kind, word in zip(ROW_WORDS[first], words):
            if kind == "number" and not re.fullmatch("0|[1-9][0-9]{0,29}", word):
                return NoText
            if kind == "name" and not re.fullmatch("[a-z]{1,8}", word):
                return NoName
            if kind == "standing" and word not in self.names:
                return NoName
        if first == "work" and int(words[1]) < int(words[2]):
            return NoText
        if first == "work" and words[0] not in self.names and len(self.names) == 8:
            return NoRoom
        if first == "need" and words[0] in self.needed_by(words[1]):
            return NoOrder
        return None

    def needed_by(self, name):
        """The work itself, and all works that need it in whatever many steps."""
        found = {name}
        for step in self.names:
            found |= {second for first, second in self.pairs if first in found}
        return found

    def change(self, row):
        first, *words = row.split(" ")
        if first == "work":
            if words[0] not in self.names:
                self.names.append(words[0])
                self.works.append(None)
            self.works[self.names.index(words[0])] = [int(word) for word in words[1:]]
        if first == "need":
            self.pairs.add(tuple(words))
        if first == "free":
            self.pairs.discard(tuple(words))
        if first == "drop":
            self.works.pop(self.names.index(words[0]))
            self.names.remove(words[0])
            self.pairs = {pair for pair in self.pairs if words[0] not in pair}


class RowCase(BookCase):
    """Tells rows to a book, and knows what it should keep."""

    def setUp(self):
        self.book = Book()
        self.mirror = Mirror()

    def answer(self, row):
        told = self.book.say(row)
        self.assertIs(type(told), str, row)
        return told

    def answers(self, expected, row):
        for asking in range(2):
            self.assertEqual(self.answer(row), expected, (row, self.mirror.names, self.mirror.works))

    def tell(self, *rows):
        """Rows that change the book, each of which it should take."""
        for row in rows:
            self.assertIsNone(self.mirror.refusal_of(row), row)
            self.mirror.change(row)
            self.assertEqual(self.answer(row), "ok", row)
            self.keeps_what_it_should()

    def is_refused(self, refusal, *rows):
        for row in rows:
            self.assertIs(self.mirror.refusal_of(row), refusal, row)
            self.refuses(refusal, self.book.say, row)
            self.keeps_what_it_should()

    def keeps_what_it_should(self):
        names = self.mirror.names
        self.answers(" ".join(names), "names")
        for name, work in zip(names, self.mirror.works):
            firsts = [first for first in names if (first, name) in self.mirror.pairs]
            self.answers(" ".join([str(number) for number in work] + firsts), f"show {name}")

    def put(self, works, needs, names="abcdefgh"):
        for name, (usual, least, price) in zip(names, works):
            self.tell(f"work {name} {usual} {least} {price}")
        for first, second in needs:
            self.tell(f"need {names[first]} {names[second]}")

    def told_plan(self, end):
        """The plan that the book tells; None where it tells that there is none."""
        text = self.answer(f"plan {end}")
        if text == "none":
            return None
        rows = [row.split(" ") for row in text.split("; ")] if text else []
        self.assertEqual([row[0] for row in rows], self.mirror.names, text)
        plan = [[int(word) for word in row[1:]] for row in rows]
        self.assertEqual(text, "; ".join(f"{row[0]} {begin} {hours}" for row, (begin, hours) in zip(rows, plan)))
        return plan

    def told_stream(self, end):
        text = self.answer(f"why {end}")
        rows = [row.split(" ") for row in text.split("; ")] if text else []
        for row in rows:
            self.assertRegex(row[0], "^[1-9][0-9]*$", text)
        return [[int(row[0])] + self.numbers_of(row[1:]) for row in rows]

    def amounts_by_ways(self, end):
        """What a told stream leads along each way; one way may stand in several lists."""
        found = {}
        for row in self.answer(f"why {end}").split("; "):
            amount, ignored, way = row.partition(" ")
            found[way] = found.get(way, 0) + int(amount)
        return found

    def numbers_of(self, names):
        self.assertTrue(set(names) <= set(self.mirror.names), names)
        return [self.mirror.names.index(name) for name in names]

    def told_price(self, end):
        """The least price for an end: by a plan, by a stream, and by the price that is told; None where none is."""
        works, needs = self.mirror.works, self.mirror.needs()
        plan = self.told_plan(end)
        if plan is None:
            self.answers("none", f"price {end}")
            self.tells_a_way(end)
            return None
        self.assertTrue(is_plan(works, needs, end, plan), (works, needs, end, plan))
        price = plan_price(works, plan)
        rows = self.told_stream(end)
        self.is_right_stream(works, needs, rows)
        self.assertEqual(stream_worth(works, rows, end), price, (works, needs, end, rows))
        self.answers(str(price), f"price {end}")
        return price

    def tells_a_way(self, end):
        first, *names = self.answer(f"why {end}").split(" ")
        way = self.numbers_of(names)
        self.assertEqual(first, "way")
        self.assertIn(way, all_ways(len(self.mirror.works), self.mirror.needs()))
        self.assertGreater(hours_of(way, [work[1] for work in self.mirror.works]), end)

    def both_ends(self):
        works = self.mirror.works
        ways = all_ways(len(works), self.mirror.needs())
        least = length_of([work[1] for work in works], ways)
        return least, length_of([usual if price else least for usual, least, price in works], ways)

    def told_corners(self):
        text = self.answer("curve")
        told = [[int(word) for word in row.split(" ")] for row in text.split("; ")]
        self.assertEqual(text, "; ".join(f"{end} {price}" for end, price in told))
        return told

    def all_is_right(self, most_ends=99):
        """Every asking: at each end from 0 on to behind the free one or, where these are too many, at the corners."""
        least, free = self.both_ends()
        self.answers(f"{least} {free}", "ends")
        corners = self.told_corners()
        turns = {end + shift for end, price in corners for shift in (-1, 0, 1)}
        ends = [*range(free + 3)] if free < most_ends else [0, *sorted(turns), free + 2]
        prices = {end: self.told_price(end) for end in ends + [THIRTY] if end >= 0}
        self.assertEqual([end for end in prices if prices[end] is not None], [end for end in prices if end >= least])
        self.curve_is_right(corners, prices, least, free)
        self.spare_is_right()
        self.wishes_are_right(corners)

    def curve_is_right(self, corners, prices, least, free):
        self.assertEqual(corners[0], [free, 0])
        self.assertEqual(corners[-1][0], least)
        steps = [(more - price) // (end - sooner) for (end, price), (sooner, more) in zip(corners, corners[1:])]
        self.assertEqual([0, *steps], sorted({0, *steps}))
        for end, price in prices.items():
            if price is not None:
                self.assertEqual(price, price_between(corners, end))

    def spare_is_right(self):
        works = self.mirror.works
        usual = [work[0] for work in works]
        ways = all_ways(len(works), self.mirror.needs())
        whole = length_of(usual, ways)
        longest = [max(hours_of(way, usual) for way in ways if work in way) for work in range(len(works))]
        for end in (0, 1, whole - 1, whole, whole + 1, whole + 7):
            if end >= whole:
                self.answers(" ".join(str(end - hours) for hours in longest), f"spare {end}")
            elif end >= 0:
                self.answers("none", f"spare {end}")

    def wishes_are_right(self, corners):
        """The least ends for budgets and the best ends for bonuses, by corners that were found right."""
        pieces = list(zip(corners, corners[1:]))
        steps = [(more - price) // (end - sooner) for (end, price), (sooner, more) in pieces]
        for budget in {0, 1} | {price + shift for end, price in corners for shift in (-1, 0, 1)}:
            if 0 <= budget <= THIRTY:
                expected = corners[-1][0]
                for step, ((end, price), (sooner, more)) in zip(steps, pieces):
                    if price <= budget < more:
                        expected = end - (budget - price) // step
                self.answers(str(expected), f"budget {budget}")
        for bonus in {0, 1, THIRTY} | {step + shift for step in steps for shift in (-1, 0, 1)}:
            if 0 <= bonus <= THIRTY:
                total = min(price + bonus * end for end, price in corners)
                best = min(end for end, price in corners if price + bonus * end == total)
                self.answers(f"{best} {total}", f"bonus {bonus}")
