"""Books: works kept by names, which rows of text change and ask."""

from hastebook.curves import corners, price_at
from hastebook.errors import NoName, NoRoom, NoRow, NoText
from hastebook.haste import free_end, least_end, plan_at, stream_at, too_long
from hastebook.moments import length, spare
from hastebook.needs import order_of
from hastebook.texts import is_name, read_count
from hastebook.wishes import best_end, best_sum, end_for

MOST_WORKS = 8
DONE = "ok"
NOTHING = "none"


def any_name(book, word):
    if not is_name(word):
        raise NoName("that is no name")
    return word


def work_name(book, word):
    # No word but a name has a work in the book, so one that is no name is refused here as well.
    if word not in book.works:
        raise NoName("no work of that name stands in the book")
    return word


def any_number(book, word):
    return read_count(word)


def put_in(book, given):
    name = given[0]
    work = given[1:]
    if work[0] < work[1]:
        raise NoText("the usual hours are below the least ones")
    if name not in book.works and len(book.works) >= MOST_WORKS:
        raise NoRoom("the book is full")
    book.works[name] = work
    return DONE


def take_out(book, given):
    book.works.pop(given[0])
    book.needs = [need for need in book.needs if given[0] not in need]
    return DONE


def add_need(book, given):
    if given not in book.needs:
        needs = book.needs + [given]
        # Asked only so that a need by which the works run in a ring is refused ahead of being kept.
        order_of(len(book.works), numbered(book, needs))
        book.needs = needs
    return DONE


def free_need(book, given):
    book.needs = [need for need in book.needs if need != given]
    return DONE


def tell_names(book, given):
    return spaced(list(book.works))


def tell_work(book, given):
    name = given[0]
    return spaced(book.works[name] + [first for first in book.works if [first, name] in book.needs])


def tell_ends(book, given):
    works = works_of(book)
    needs = needs_of(book)
    return spaced([least_end(works, needs), free_end(works, needs)])


def tell_price(book, given):
    price = price_at(works_of(book), needs_of(book), given[0])
    return NOTHING if price is None else str(price)


def tell_plan(book, given):
    plan = plan_at(works_of(book), needs_of(book), given[0])
    if plan is None:
        return NOTHING
    return parted([[name] + row for name, row in zip(list(book.works), plan)])


def tell_why(book, given):
    works = works_of(book)
    needs = needs_of(book)
    rows = stream_at(works, needs, given[0])
    if rows is None:
        return spaced(["way"] + named(book, too_long(works, needs, given[0])))
    return parted([[row[0]] + named(book, row[1:]) for row in rows])


def tell_curve(book, given):
    return parted(corners(works_of(book), needs_of(book)))


def tell_spare(book, given):
    hours = [work[0] for work in works_of(book)]
    needs = needs_of(book)
    if given[0] < length(hours, needs):
        return NOTHING
    return spaced(spare(hours, needs, given[0]))


def tell_budget(book, given):
    return str(end_for(works_of(book), needs_of(book), given[0]))


def tell_bonus(book, given):
    works = works_of(book)
    needs = needs_of(book)
    return spaced([best_end(works, needs, given[0]), best_sum(works, needs, given[0])])


def works_of(book):
    return list(book.works.values())


def needs_of(book):
    return numbered(book, book.needs)


def numbered(book, needs):
    names = list(book.works)
    return [[names.index(first), names.index(second)] for first, second in needs]


def named(book, numbers):
    names = list(book.works)
    return [names[number] for number in numbers]


def spaced(things):
    return " ".join([str(thing) for thing in things])


def parted(rows):
    return "; ".join([spaced(row) for row in rows])


# Behind each first word: what answers the row, and what reads each further word.
ROWS = {
    "work": (put_in, any_name, any_number, any_number, any_number),
    "need": (add_need, work_name, work_name),
    "free": (free_need, work_name, work_name),
    "drop": (take_out, work_name),
    "names": (tell_names,),
    "show": (tell_work, work_name),
    "ends": (tell_ends,),
    "price": (tell_price, any_number),
    "plan": (tell_plan, any_number),
    "why": (tell_why, any_number),
    "curve": (tell_curve,),
    "spare": (tell_spare, any_number),
    "budget": (tell_budget, any_number),
    "bonus": (tell_bonus, any_number),
}


class Book:
    def __init__(self):
        # By their names: a dict keeps the order in which they came, also where one is put in anew.
        self.works = {}
        self.needs = []

    def say(self, row):
        words = row.split(" ")
        if words[0] not in ROWS or len(words) != len(ROWS[words[0]]):
            raise NoRow("that is none of the rows")
        answer = ROWS[words[0]][0]
        readers = ROWS[words[0]][1:]
        return answer(self, [read(self, word) for read, word in zip(readers, words[1:])])
