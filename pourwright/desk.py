"""A desk that keeps a row, a room, a width and drives; it is told lines, and answers with texts."""

from pourwright.bounds import check_drives, check_room, check_width
from pourwright.choosing import chosen
from pourwright.errors import NoLine, TooMany
from pourwright.goings import least_moved
from pourwright.items import MOST_ITEMS, far, sorted_row
from pourwright.layouts import level, level_for
from pourwright.loads import loads, natural
from pourwright.pours import pour
from pourwright.sorting import sort_on
from pourwright.texts import are_figures, is_item_text, read_item, show_row
from pourwright.works import all_deeds

MOST_POURED = 16


def show_numbers(numbers):
    return " ".join([str(number) for number in numbers])


def show_runs(runs):
    return " | ".join([show_row(run) for run in runs]) if runs else "none"


def chosen_runs(desk):
    return chosen(desk.row, desk.room)


def tell_row(desk):
    return show_row(desk.row)


def tell_sorted(desk):
    return show_row(sorted_row(desk.row))


def tell_loads(desk):
    return show_runs(loads(desk.row, desk.room))


def tell_natural(desk):
    return show_runs(natural(desk.row))


def tell_chosen(desk):
    return show_runs(chosen_runs(desk))


def tell_far(desk):
    return str(far(desk.row))


def tell_pour(desk):
    runs = natural(desk.row)
    if len(runs) > MOST_POURED:
        raise TooMany(f"at most {MOST_POURED} runs are poured at once")
    return show_numbers(pour(runs)[1])


def tell_moved(desk):
    return str(least_moved([len(run) for run in chosen_runs(desk)], desk.width))


def tell_level(desk):
    number = level_for(desk.drives, len(chosen_runs(desk)))
    return show_numbers((number,) + level(desk.drives, number))


def tell_sort(desk):
    return show_numbers(sort_on(desk.row, desk.room, desk.drives)[1:])


def tell_deeds(desk):
    return str(len(all_deeds(desk.row, desk.room, desk.width)))


ASKED = {
    "row": tell_row,
    "sorted": tell_sorted,
    "loads": tell_loads,
    "natural": tell_natural,
    "chosen": tell_chosen,
    "far": tell_far,
    "pour": tell_pour,
    "moved": tell_moved,
    "level": tell_level,
    "sort": tell_sort,
    "deeds": tell_deeds,
}


class Desk:
    def __init__(self):
        self.row = []
        self.room = 3
        self.width = 2
        self.drives = 3

    def say(self, line):
        if not isinstance(line, str):
            raise NoLine("a line is a text")
        if line in ASKED:
            return ASKED[line](self)
        if line == "clear":
            self.row = []
            return "0"
        words = line.split(" ")
        if words[0] == "add" and len(words) > 1:
            return self.add_items(words[1:])
        if words[0] in ("room", "width", "drives") and len(words) == 2:
            return self.keep_number(words[0], words[1])
        raise NoLine("this is no line")

    def add_items(self, words):
        if not all([is_item_text(word) for word in words]):
            raise NoLine("this word writes no item")
        if len(self.row) + len(words) > MOST_ITEMS:
            raise TooMany(f"a row has at most {MOST_ITEMS} items")
        self.row = self.row + [read_item(word) for word in words]
        return str(len(self.row))

    def keep_number(self, word, text):
        if not are_figures(text):
            raise NoLine("this writes no number")
        number = int(text)
        if word == "room":
            check_room(number)
            self.room = number
        elif word == "width":
            check_width(number)
            self.width = number
        else:
            check_drives(number)
            self.drives = number
        return "ok"
