"""The interface: every name is there in its module, with its arguments by their names."""

import importlib
import inspect
import unittest

from hastebook.books import Book

FUNCTIONS = {
    "needs": ("order_of(many, needs)", "is_way(many, needs, some)"),
    "moments": (
        "earliest(hours, needs)",
        "length(hours, needs)",
        "latest(hours, needs, end)",
        "spare(hours, needs, end)",
        "longest(hours, needs)",
    ),
    "plans": ("keeps(works, needs, end, plan)", "price_of(works, plan)"),
    "streams": ("is_stream(many, needs, rows)", "through(many, rows)", "worth(works, rows, end)"),
    "haste": (
        "least_end(works, needs)",
        "free_end(works, needs)",
        "plan_at(works, needs, end)",
        "stream_at(works, needs, end)",
        "too_long(works, needs, end)",
    ),
    "curves": ("corners(works, needs)", "price_at(works, needs, end)", "step_at(works, needs, end)"),
    "wishes": (
        "end_for(works, needs, budget)",
        "best_end(works, needs, bonus)",
        "best_sum(works, needs, bonus)",
        "bonus_stream(works, needs, bonus)",
    ),
    "rests": ("rest_of(works, needs, plan, moment)", "spent(works, plan, moment)"),
    "texts": ("read_count(text)", "is_name(text)"),
}


class TestInterface(unittest.TestCase):
    def test_functions(self):
        for module, heads in FUNCTIONS.items():
            held = importlib.import_module(f"hastebook.{module}")
            for head in heads:
                name = head.partition("(")[0]
                with self.subTest(module=module, name=name):
                    call = getattr(held, name)
                    self.assertEqual(name + str(inspect.signature(call)), head)
                    self.assertEqual(call.__module__, held.__name__)

    def test_book(self):
        self.assertEqual(Book.__module__, "hastebook.books")
        self.assertEqual(str(inspect.signature(Book)), "()")
        self.assertEqual(str(inspect.signature(Book.say)), "(self, row)")
        self.assertEqual(Book().say(row="names"), "")
