"""Point 16: the rows that a book refuses, by which name, and that they change nothing."""

from hastebook.errors import NoName, NoOrder, NoRoom, NoRow, NoText
from tests.helper import ROW_WORDS, THIRTY, RowCase

WORKS = [[4, 2, 3], [5, 5, 0], [6, 0, 10]]
NEEDS = [[0, 1], [0, 2]]
CHAIN = [[work, work + 1] for work in range(7)]

NO_NAMES = ("", "A", "aB", "abcdefghi", "a1", "1", "a-b", "-", "a_b", "a,b", "a;", "~", "abcdefghijklmnop", "k" * 3000)
NO_NUMBERS = ("", "-1", "+1", "-0", "01", "00", "1.0", "1_0", "a", "x1", "1x", "9" * 31, "1" + "0" * 30, "0x1", "none",
              "1;", "9" * 3000)


class RefusalCase(RowCase):
    def setUp(self):
        super().setUp()
        self.put(WORKS, NEEDS)

    def tearDown(self):
        # Whatever was refused: works, needs and all answers are as before.
        self.keeps_what_it_should()
        self.all_is_right()


class TestNoRow(RefusalCase):
    def test_first_words_that_are_none(self):
        self.is_refused(NoRow, "hello", "x", "a", "-", "1", "0", "none", "ok", "way", "help", "quit", "step 7", "end 7")
        for first, kinds in ROW_WORDS.items():
            words = ["a" if kind == "standing" else "1" for kind in kinds]
            for wrong in (first.upper(), first.capitalize(), first + "s", first[:-1], first + ":", "-" + first):
                if wrong not in ROW_WORDS:
                    self.is_refused(NoRow, " ".join([wrong, *words]))

    def test_no_words(self):
        self.is_refused(NoRow, "", " ", "  ", "   ", " " * 4000)

    def test_words_too_few_and_too_many(self):
        for first, kinds in ROW_WORDS.items():
            for many in range(9):
                for word in ("a", "b", "1", "zz", "A", "-1", ""):
                    if many != len(kinds):
                        self.is_refused(NoRow, " ".join([first] + [word] * many))

    def test_blank_at_the_begin(self):
        for first, kinds in ROW_WORDS.items():
            words = ["a" if kind == "standing" else "1" for kind in kinds]
            self.is_refused(NoRow, " " + " ".join([first, *words]), "  " + " ".join([first, *words]))

    def test_blank_at_the_end(self):
        for first, kinds in ROW_WORDS.items():
            words = ["a" if kind == "standing" else "1" for kind in kinds]
            self.is_refused(NoRow, " ".join([first, *words]) + " ", " ".join([first, *words]) + "  ")

    def test_two_blanks(self):
        self.is_refused(NoRow, "work  k 1 1 1", "work k  1 1 1", "work k 1  1 1", "work k 1 1  1")
        self.is_refused(NoRow, "need  b c", "need b  c", "free  a b", "free a  b", "drop  a", "show  a")
        self.is_refused(NoRow, "price  7", "plan  7", "why  7", "spare  7", "budget  7", "bonus  7")

    def test_other_parting_signs(self):
        self.is_refused(NoRow, "work,k,1,1,1", "work_k_1_1_1", "names;", "drop;a", "price:7", "names; ends")

    def test_ahead_of_all_others(self):
        self.is_refused(NoRow, "work A x y", "work A 1 2", "work a 1 2", "need zz", "need a a a", "need A", "free zz")
        self.is_refused(NoRow, "drop zz zz", "show A A", "price x y", "plan", "bonus -1 -1", "work zz 1 2 3 4")

    def test_word_without_signs_where_a_word_should_be(self):
        # Here there are just as many words as should be, one of them without signs.
        self.is_refused(NoName, "drop ", "show ", "need  b", "need a ", "need  ", "free  b", "free a ", "work  1 1 1")
        self.is_refused(NoText, "price ", "plan ", "why ", "spare ", "budget ", "bonus ")
        self.is_refused(NoText, "work k  1 1", "work k 1  1", "work k 1 1 ", "work k   ")
        self.is_refused(NoName, "work    ")


class TestNoName(RefusalCase):
    def test_no_name(self):
        for word in NO_NAMES:
            self.is_refused(NoName, f"work {word} 1 1 1", f"drop {word}", f"show {word}")
            self.is_refused(NoName, f"need {word} b", f"need b {word}", f"free {word} b", f"free a {word}")
            self.is_refused(NoName, f"need {word} {word}", f"free {word} {word}")

    def test_name_without_a_work(self):
        for word in ("d", "k", "zz", "ab", "aa", "abcdefgh", "names", "work", "ok"):
            self.is_refused(NoName, f"drop {word}", f"show {word}", f"need {word} b", f"need b {word}")
            self.is_refused(NoName, f"free {word} b", f"free a {word}", f"need {word} {word}", f"free {word} {word}")

    def test_name_of_a_work_that_was_taken_out(self):
        self.tell("drop a")
        self.is_refused(NoName, "drop a", "show a", "need a b", "need b a", "free a b", "free b a", "need a a")
        self.tell("work a 1 1 1")

    def test_in_a_book_without_works(self):
        self.tell("drop a", "drop b", "drop c")
        self.is_refused(NoName, "drop a", "show a", "need a b", "free a b", "need a a", "free a a")

    def test_ahead_of_what_stands_right_of_it(self):
        for word in NO_NAMES:
            for number in NO_NUMBERS:
                self.is_refused(NoName, f"work {word} {number} {number} {number}")
            self.is_refused(NoName, f"work {word} 1 2 3", f"work {word} 1 1 x")

    def test_ahead_of_no_order(self):
        self.is_refused(NoName, "need zz zz", "need A A", "need zz a", "need a zz")


class TestNoText(RefusalCase):
    def test_no_number(self):
        for word in NO_NUMBERS:
            self.is_refused(NoText, f"price {word}", f"plan {word}", f"why {word}", f"spare {word}")
            self.is_refused(NoText, f"budget {word}", f"bonus {word}")
            for name in ("a", "k"):
                self.is_refused(NoText, f"work {name} {word} 1 1", f"work {name} 1 {word} 1", f"work {name} 1 1 {word}")
                self.is_refused(NoText, f"work {name} {word} {word} {word}")

    def test_names_where_numbers_should_be(self):
        self.is_refused(NoText, "price a", "plan b", "why c", "spare a", "budget b", "bonus c", "work a b c a")

    def test_usual_hours_below_the_least_ones(self):
        for name in ("a", "c", "k", "work"):
            for given in ("0 1 5", "1 2 3", "9 10 0", "2 10 5", f"{THIRTY - 1} {THIRTY} 0", f"0 {THIRTY} {THIRTY}"):
                self.is_refused(NoText, f"work {name} {given}")
        for given in ("1 1 3", "10 9 0", "10 2 5", f"{THIRTY} {THIRTY} {THIRTY}", "0 0 0"):
            self.tell(f"work k {given}")

    def test_in_a_book_without_works(self):
        self.tell("drop a", "drop b", "drop c")
        self.is_refused(NoText, "price -1", "plan x", "why 01", "spare ", "budget -", "bonus 1.5", "work a 1 2 3")


class TestNoRoom(RefusalCase):
    def setUp(self):
        super().setUp()
        self.tell("work d 1 1 1", "work e 2 1 2", "work f 3 1 3", "work g 4 1 4", "work h 5 1 5", "need c h")

    def test_ninth_work(self):
        self.is_refused(NoRoom, "work i 1 1 1", "work zz 0 0 0", f"work names {THIRTY} {THIRTY} {THIRTY}")

    def test_not_where_the_name_stands_already(self):
        self.tell("work h 6 1 5", "work a 4 2 3", "work d 0 0 0")
        self.is_refused(NoRoom, "work i 1 1 1")

    def test_room_for_the_eighth_work_again(self):
        self.tell("drop c")
        self.tell("work i 1 1 1")
        self.is_refused(NoRoom, "work c 1 1 1", "work j 1 1 1")

    def test_behind_no_name_and_no_text(self):
        self.is_refused(NoName, "work I 1 1 1", "work  1 1 1", "work abcdefghi 1 2 x")
        self.is_refused(NoText, "work i x 1 1", "work i 1 1 x", "work i 1 2 3", "work i 0 1 1", "work a 1 2 3")
        self.is_refused(NoRow, "work i 1 1", "work i 1 1 1 1", "work i 1 1 1 ")

    def test_needs_and_askings_of_a_full_book(self):
        self.tell("need a h", "need d e", "free a h")
        self.is_refused(NoName, "need i a", "show i", "drop i", "free i a")


class TestNoOrder(RefusalCase):
    def test_work_and_itself(self):
        self.is_refused(NoOrder, "need a a", "need b b", "need c c")

    def test_ring_of_two(self):
        self.is_refused(NoOrder, "need b a", "need c a")

    def test_ring_through_others(self):
        self.tell("need b c", "work d 1 1 1", "need c d")
        self.is_refused(NoOrder, "need c b", "need c a", "need b a", "need d a", "need d b", "need d c", "need d d")
        self.tell("need a d", "need b d", "need a d")
        self.is_refused(NoOrder, "need d a", "need d b")

    def test_works_of_no_hours_as_well(self):
        self.tell("work x 0 0 0", "work y 0 0 0", "need x y")
        self.is_refused(NoOrder, "need y x", "need x x", "need y y")

    def test_eight_works(self):
        for name in "abc":
            self.tell(f"drop {name}")
        self.put([[1, 1, 1]] * 8, CHAIN)
        for second in range(8):
            for first in range(second, 8):
                self.is_refused(NoOrder, f"need {'abcdefgh'[first]} {'abcdefgh'[second]}")
        self.tell("free d e")
        self.is_refused(NoOrder, "need d a", "need h e")
        self.tell("need h a", "free h a")

    def test_right_again_where_the_other_need_is_gone(self):
        self.is_refused(NoOrder, "need b a")
        self.tell("free a b", "need b a")
        self.is_refused(NoOrder, "need a b")
        self.tell("drop a", "work a 4 2 3", "need a b")
        self.is_refused(NoOrder, "need b a")


class TestSeveralAtOnce(RefusalCase):
    def test_each_of_many_rows(self):
        names = ("a", "zz", "A", "")
        numbers = ("5", "6", "x", "")
        for first, kinds in ROW_WORDS.items():
            rows = [first]
            for kind in kinds:
                rows = [f"{row} {word}" for row in rows for word in (numbers if kind == "number" else names)]
            for row in rows:
                for wrong in (row, row + " ", row + " 1", " " + row, "x" + row):
                    refusal = self.mirror.refusal_of(wrong)
                    if refusal is not None:
                        self.is_refused(refusal, wrong)

    def test_refused_rows_and_right_ones_by_turns(self):
        self.is_refused(NoName, "need a k")
        self.tell("work k 3 1 2")
        self.is_refused(NoText, "work k 1 3 2")
        self.tell("need a k")
        self.is_refused(NoOrder, "need k a")
        self.tell("drop a")
        self.is_refused(NoName, "need k a")
        self.tell("work a 9 4 1", "need k a")
        self.is_refused(NoOrder, "need a k")
        self.is_refused(NoRow, "drop k a", "drop", "drop k ")
        self.answers("b c k a", "names")
        self.answers("9 4 1 k", "show a")
