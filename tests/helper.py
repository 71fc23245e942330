"""What all tests of the program share: asking it with care, and small sets of needs to walk."""

import copy
import itertools
import unittest

from hastebook.errors import BookError, NoName, NoOrder, NoRoom, NoRow, NoText

REFUSALS = (NoOrder, NoRoom, NoRow, NoName, NoText)

THIRTY = 10 ** 30 - 1
SEVENTY = 10 ** 70 - 1
# Lies beyond every bound of the document, and is still not to be refused for it.
BEYOND = 10 ** 90


def no_works(many):
    """Numbers that are no work, of which some would still be an index from the right."""
    return [-1, -many, -many - 1, many, many + 1, SEVENTY, -SEVENTY, BEYOND, -BEYOND]


def spoil(answer):
    """Change a told list as its asker may."""
    for thing in answer:
        if isinstance(thing, list):
            spoil(thing)
    answer.reverse()
    answer.append(-77)
    answer[0] = -78


def all_needs(many):
    """Every set of needs between different works, those that run in a ring too."""
    pairs = [[first, second] for first in range(many) for second in range(many) if first != second]
    for chosen in itertools.product((False, True), repeat=len(pairs)):
        yield [list(pair) for pair, taken in zip(pairs, chosen) if taken]


def keeps_needs(order, needs):
    return all(order.index(first) < order.index(second) for first, second in needs)


def right_needs(many):
    """Every set of needs that is not refused."""
    for needs in all_needs(many):
        if any(keeps_needs(order, needs) for order in itertools.permutations(range(many))):
            yield needs


def all_ways(many, needs):
    """Every way, found by stepping on from each work as long as a need leads on."""
    ways = []
    fresh = [[work] for work in range(many)]
    while fresh:
        ways += fresh
        fresh = [way + [work] for way in fresh for work in range(many) if [way[-1], work] in needs]
    return ways


def wrong_needs(many):
    """Needs among two works or more that are refused, the wrong ones at every place in the list."""
    right = [[0, 1], [0, 1]]
    wrong = [[[work, work]] for work in range(many)] + [[[1, 0]]]
    wrong += [[[number, 1]] for number in no_works(many)]
    wrong += [[[0, number]] for number in no_works(many)]
    wrong += [[[number, number]] for number in no_works(many)]
    for rows in wrong:
        for place in range(len(right) + 1):
            yield copy.deepcopy(right[:place] + rows + right[place:])


class BookCase(unittest.TestCase):
    def ask(self, call, *given):
        """The answer of a second asking, behind a first one whose answer was changed (point 2)."""
        before = copy.deepcopy(given)
        first = call(*given)
        self.assertEqual(given, before)
        if isinstance(first, list):
            spoil(first)
            self.assertEqual(given, before, "what was told is what was handed in")
        second = call(*given)
        self.assertEqual(given, before)
        self.assertIsNot(second, None)
        return second

    def tells(self, expected, call, *given):
        answer = self.ask(call, *given)
        self.assertEqual(answer, expected, given)
        self.assertIs(type(answer), type(expected))
        if isinstance(answer, list):
            self.assertTrue(all(type(thing) is int for thing in answer))

    def refuses(self, refusal, call, *given):
        before = copy.deepcopy(given)
        with self.assertRaises(refusal, msg=str(given)) as caught:
            call(*given)
        self.assertIsInstance(caught.exception, BookError)
        self.assertIsInstance(caught.exception, ValueError)
        for other in REFUSALS:
            self.assertEqual(isinstance(caught.exception, other), other is refusal)
        self.assertEqual(given, before)
