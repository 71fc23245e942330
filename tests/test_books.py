"""Points 16 and 17: a book that rows of text change and ask."""

import itertools

from hastebook.books import Book
from tests.helper import (
    EIGHT_NEEDS,
    GIVEN_BACK,
    ROW_WORDS,
    THIRTY,
    RowCase,
    expected_corners,
    least_prices,
    made_numbers,
    made_works,
    right_needs,
)

WORKS = [[4, 2, 3], [5, 5, 0], [6, 0, 10]]
NEEDS = [[0, 1], [0, 2]]
CHAIN = [[work, work + 1] for work in range(7)]


class TestEachRow(RowCase):
    def test_form_of_plan_why_and_curve(self):
        self.put([[5, 5, 1], [7, 7, 1]], [[0, 1]])
        self.answers("a 0 5; b 5 7", "plan 12")
        self.answers("way a b", "why 11")
        self.answers("12 0", "curve")
        self.answers("0 0", "spare 12")
        self.answers("12 12", "ends")

    def test_answers_of_every_row(self):
        self.tell("work dig 4 2 3", "work lay 5 5 0", "work roof 6 0 10", "need dig lay", "need dig roof")
        self.answers("dig lay roof", "names")
        self.answers("4 2 3", "show dig")
        self.answers("5 5 0 dig", "show lay")
        self.answers("6 0 10 dig", "show roof")
        self.answers("7 10", "ends")
        self.answers("16", "price 7")
        self.answers("6", "price 8")
        self.answers("0", "price 10")
        self.answers("none", "price 6")
        self.answers("dig 0 2; lay 2 5; roof 2 5", "plan 7")
        self.answers("none", "plan 6")
        self.assertEqual(self.amounts_by_ways(9), {"dig roof": 3})
        self.answers("", "why 10")
        self.answers("way dig lay", "why 6")
        self.answers("10 0; 8 6; 7 16", "curve")
        self.answers("2 3 2", "spare 12")
        self.answers("0 1 0", "spare 10")
        self.answers("none", "spare 9")
        self.answers("9", "budget 3")
        self.answers("10", "budget 2")
        self.answers("7", "budget 16")
        self.answers("8 30", "bonus 3")
        self.answers("10 20", "bonus 2")
        self.answers("10 0", "bonus 0")
        self.tell("free dig roof")
        self.answers("6 0 10", "show roof")
        self.answers("7 9", "ends")
        self.tell("drop dig")
        self.answers("lay roof", "names")
        self.answers("5 5 0", "show lay")
        self.answers("5 6", "ends")

    def test_answers_of_a_book_without_works(self):
        self.answers("", "names")
        self.answers("0 0", "ends")
        self.answers("0 0", "curve")
        for end in (0, 1, 7, THIRTY):
            self.answers("0", f"price {end}")
            self.answers("", f"plan {end}")
            self.answers("", f"why {end}")
            self.answers("", f"spare {end}")
            self.answers("0", f"budget {end}")
            self.answers("0 0", f"bonus {end}")
        self.all_is_right()

    def test_a_book_whose_works_were_all_taken_out(self):
        self.put(WORKS, NEEDS)
        self.tell("drop b", "drop a", "drop c")
        self.answers("", "names")
        self.answers("0 0", "ends")
        self.answers("0 0", "curve")
        self.answers("", "plan 0")
        self.answers("", "why 0")
        self.answers("", "spare 0")
        self.all_is_right()

    def test_answers_of_one_work(self):
        self.tell("work k 8 3 5")
        self.answers("k", "names")
        self.answers("8 3 5", "show k")
        self.answers("3 8", "ends")
        self.answers("8 0; 3 25", "curve")
        for end in (0, 1, 2):
            self.answers("none", f"price {end}")
            self.answers("none", f"plan {end}")
            self.answers("way k", f"why {end}")
        for end in range(3, 8):
            self.answers(str(5 * (8 - end)), f"price {end}")
            self.answers(f"k 0 {end}", f"plan {end}")
            self.answers("none", f"spare {end}")
        for end in (8, 9, THIRTY):
            self.answers("0", f"price {end}")
            self.answers("", f"why {end}")
            self.answers(str(end - 8), f"spare {end}")
        for budget, end in {0: 8, 4: 8, 5: 7, 24: 4, 25: 3, THIRTY: 3}.items():
            self.answers(str(end), f"budget {budget}")
        for bonus, expected in {0: "8 0", 4: "8 32", 5: "3 40", 6: "3 43"}.items():
            self.answers(expected, f"bonus {bonus}")
        self.all_is_right()

    def test_work_of_no_hours(self):
        self.tell("work k 0 0 0")
        self.answers("0 0 0", "show k")
        self.answers("0 0", "ends")
        self.answers("k 0 0", "plan 0")
        self.answers("", "why 0")
        self.answers("0", "spare 0")
        self.all_is_right()

    def test_eight_works(self):
        for seed, needs in enumerate(EIGHT_NEEDS):
            self.setUp()
            self.put(made_works(8, seed, 7, 6), needs)
            self.assertEqual(len(self.mirror.works), 8)
            self.all_is_right()

    def test_few_works_by_a_search(self):
        for works in ([[2, 0, 1], [2, 0, 2], [2, 0, 3]], [[3, 1, 2], [1, 0, 0], [2, 0, 1]]):
            for needs in right_needs(3):
                self.setUp()
                self.put(works, needs)
                prices = least_prices(works, needs)
                for end, price in prices.items():
                    self.assertEqual(self.told_price(end), price)
                self.assertEqual(self.told_corners(), expected_corners(prices))
                self.all_is_right()

    def test_hours_that_are_given_back(self):
        self.put(*GIVEN_BACK)
        self.answers("12 0; 10 6; 8 16; 7 24; 6 44; 5 67", "curve")
        self.answers("a 0 2; b 0 6; c 2 4; d 2 6; e 6 2", "plan 8")
        self.all_is_right()

    def test_why_tells_several_lists(self):
        self.put([[9, 0, 1], [9, 0, 2], [9, 0, 4]], [])
        self.assertEqual(self.amounts_by_ways(5), {"a": 1, "b": 2, "c": 4})

    def test_numbers_of_thirty_figures_and_longer_answers(self):
        self.put([[THIRTY, 0, THIRTY]] * 8, CHAIN)
        self.answers(f"{THIRTY} 0 {THIRTY} g", "show h")
        self.answers(f"0 {8 * THIRTY}", "ends")
        self.answers(str(8 * THIRTY ** 2), "price 0")
        self.answers(str(7 * THIRTY ** 2), f"price {THIRTY}")
        self.answers(f"{8 * THIRTY} 0; 0 {8 * THIRTY ** 2}", "curve")
        self.answers("none", f"spare {THIRTY}")
        self.answers(str(8 * THIRTY - 1), f"budget {THIRTY}")
        self.answers(str(8 * THIRTY), f"budget {THIRTY - 1}")
        self.answers(f"{8 * THIRTY} {8 * THIRTY * (THIRTY - 1)}", f"bonus {THIRTY - 1}")
        self.answers(f"0 {8 * THIRTY ** 2}", f"bonus {THIRTY}")
        self.assertGreater(len(self.answer("price 0")), 30)

    def test_great_works(self):
        for seed, needs in enumerate(EIGHT_NEEDS):
            for hours, price in ((THIRTY // 9, THIRTY), (90, THIRTY), (THIRTY // 9, 5)):
                self.setUp()
                self.put(made_works(8, seed + 3, hours, price), needs)
                self.all_is_right()

    def test_price_of_nought(self):
        self.put([[8, 3, 0], [6, 2, 7]], [[0, 1]])
        self.answers("5 9", "ends")
        self.answers("9 0; 5 28", "curve")
        self.answers("none", "spare 13")
        self.answers("0 0", "spare 14")
        self.all_is_right()


class TestKept(RowCase):
    def test_order_of_names(self):
        self.tell("work zoo 1 1 1", "work ant 2 2 2", "work mid 3 3 3")
        self.answers("zoo ant mid", "names")
        self.tell("drop zoo")
        self.answers("ant mid", "names")
        self.tell("work zoo 4 4 4")
        self.answers("ant mid zoo", "names")
        self.tell("drop mid", "work mid 5 5 5", "work bee 6 6 6")
        self.answers("ant zoo mid bee", "names")
        self.answers("4 2 1 0", "spare 6")
        self.all_is_right()

    def test_put_in_by_a_name_that_stands(self):
        self.put(WORKS, NEEDS + [[1, 2]])
        self.tell("work b 9 1 2", "work a 0 0 0")
        self.answers("a b c", "names")
        self.answers("0 0 0", "show a")
        self.answers("9 1 2 a", "show b")
        self.answers("6 0 10 a b", "show c")
        self.answers("1 15", "ends")
        self.all_is_right()
        self.tell("work b 9 1 2")
        self.answers("9 1 2 a", "show b")
        self.all_is_right()

    def test_taken_out_with_its_needs(self):
        self.put(WORKS + [[2, 1, 1]], [[0, 1], [1, 2], [1, 3], [0, 3]])
        self.tell("drop b")
        self.answers("a c d", "names")
        self.answers("6 0 10", "show c")
        self.answers("2 1 1 a", "show d")
        self.all_is_right()
        # The needs that were taken along don't come back with the name.
        self.tell("work b 5 5 0")
        self.answers("a c d b", "names")
        self.answers("5 5 0", "show b")
        self.answers("6 0 10", "show c")
        self.answers("2 1 1 a", "show d")
        self.all_is_right()

    def test_needs_that_were_taken_along_do_not_bar_others(self):
        self.put(WORKS, [[0, 1], [1, 2]])
        self.tell("drop b", "need c a")
        self.answers("4 2 3 c", "show a")
        self.tell("work b 1 1 1", "need b c", "need b a")
        self.answers("4 2 3 c b", "show a")
        self.answers("6 0 10 b", "show c")
        self.all_is_right()

    def test_need_told_again(self):
        self.put(WORKS, NEEDS * 3)
        self.answers("5 5 0 a", "show b")
        self.answers("7 10", "ends")
        self.tell("free a b")
        self.answers("5 5 0", "show b")
        self.all_is_right()

    def test_need_taken_out_that_is_not_there(self):
        self.put(WORKS, NEEDS)
        self.tell("free b a", "free b c", "free c b", "free a a", "free c c")
        self.answers("5 5 0 a", "show b")
        self.answers("6 0 10 a", "show c")
        self.tell("free a b", "free a b")
        self.answers("5 5 0", "show b")
        self.answers("6 0 10 a", "show c")
        self.all_is_right()

    def test_need_taken_out_bars_no_other(self):
        self.tell("work a 1 1 1", "work b 1 1 1", "need a b", "free a b", "need b a")
        self.answers("1 1 1 b", "show a")
        self.answers("1 1 1", "show b")

    def test_only_needs_that_were_told_are_shown(self):
        self.put([[1, 1, 1]] * 4, [[0, 1], [1, 2], [2, 3]])
        self.answers("1 1 1 c", "show d")
        self.tell("need a d", "free c d")
        self.answers("1 1 1 a", "show d")

    def test_needs_are_shown_in_the_order_of_the_names(self):
        self.put([[1, 1, 1]] * 5, [[4, 0], [2, 0], [3, 0], [1, 0]])
        self.answers("1 1 1 b c d e", "show a")
        self.tell("drop b", "work b 2 2 2", "need b a")
        self.answers("1 1 1 c d e b", "show a")

    def test_need_from_a_later_name_to_an_earlier_one(self):
        self.tell("work a 3 1 2", "work b 4 1 5", "need b a")
        self.answers("3 1 2 b", "show a")
        self.answers("a 4 3; b 0 4", "plan 7")
        self.answers("way b a", "why 1")
        self.assertEqual(self.amounts_by_ways(6), {"b a": 2})
        self.all_is_right()

    def test_names_that_are_first_words_of_rows(self):
        words = sorted(ROW_WORDS)
        for some in (words[:8], words[6:], ["way", "none", "ok", "work"]):
            self.setUp()
            for number, word in enumerate(some):
                self.tell(f"work {word} {number + 2} 1 {number % 3}")
            for first, second in zip(some, some[2:]):
                self.tell(f"need {first} {second}")
            self.answers(" ".join(some), "names")
            self.all_is_right()
            self.tell(f"free {some[0]} {some[2]}", f"drop {some[1]}")
            self.answers(" ".join(some[:1] + some[2:]), "names")
            self.all_is_right()

    def test_names_of_one_letter_and_of_eight(self):
        self.tell("work a 1 1 1", "work abcdefgh 2 1 1", "work abcdefgi 3 1 1")
        self.tell("need abcdefgh abcdefgi", "need a abcdefgi")
        self.answers("3 1 1 a abcdefgh", "show abcdefgi")
        self.all_is_right()

    def test_a_full_book_takes_a_name_that_stands_and_one_in_the_place_of_another(self):
        self.put([[work, work, 1] for work in range(8)], CHAIN)
        for name in "abcdefgh":
            self.tell(f"work {name} 5 2 3")
        self.tell("drop a", "work i 1 1 1", "need i b", "drop h", "work a 2 2 2")
        self.answers("b c d e f g i a", "names")
        self.all_is_right()

    def test_two_books_beside_one_another(self):
        other = Book()
        self.put(WORKS, NEEDS)
        self.assertEqual(other.say("names"), "")
        self.assertEqual(other.say("ends"), "0 0")
        self.assertEqual(other.say("work a 9 9 9"), "ok")
        self.assertEqual(other.say("work k 1 1 1"), "ok")
        self.assertEqual(other.say("need k a"), "ok")
        self.keeps_what_it_should()
        self.tell("drop a")
        self.assertEqual(other.say("names"), "a k")
        self.assertEqual(other.say("show a"), "9 9 9 k")
        self.assertEqual(other.say("drop k"), "ok")
        self.all_is_right()
        third = Book()
        self.assertEqual(third.say("names"), "")
        self.assertEqual(third.say("curve"), "0 0")

    def test_askings_change_nothing(self):
        self.put(WORKS, NEEDS)
        for row in ("names", "show b", "ends", "price 7", "price 6", "plan 8", "plan 6", "why 8", "why 6", "curve",
                    "spare 9", "spare 10", "budget 5", "bonus 5"):
            self.answer(row)
            self.keeps_what_it_should()
        self.all_is_right()


class TestManyRows(RowCase):
    """Rows that come as they may, right ones and wrong ones among one another."""

    def rows(self, seed):
        numbers = made_numbers(seed, 999)
        words = ["a", "b", "cc", "work", "need", "way", "zz", "plan", "h", "i"]
        while True:
            first = (["work"] * 6 + ["need"] * 5 + ["free"] * 2 + ["drop"])[next(numbers) % 14]
            if first == "work":
                given = [words[next(numbers) % 10], *[str(next(numbers) % 5) for number in range(3)]]
            else:
                given = [words[next(numbers) % 10] for kind in ROW_WORDS[first]]
            yield " ".join([first, *given])

    def test_many_rows(self):
        met = set()
        for seed in range(6):
            self.setUp()
            for number, row in enumerate(itertools.islice(self.rows(seed), 150)):
                refusal = self.mirror.refusal_of(row)
                met.add(refusal)
                if refusal is None:
                    self.tell(row)
                else:
                    self.is_refused(refusal, row)
                if number % 15 == 14:
                    self.all_is_right()
        self.assertEqual(len(met), 5, "every refusal but NoRow was met, and rows that are taken")
