"""Work that is done deed by deed, on a shelf; stopped anywhere, it is taken up again."""

from pourwright.bounds import check_room, check_width
from pourwright.choosing import chosen
from pourwright.errors import NoShelf
from pourwright.goings import going
from pourwright.items import is_row, is_whole
from pourwright.pours import pour


def deeds_of_thing(number, row):
    return [("write", number, item) for item in row] + [("close", number)]


def all_deeds(row, room, width):
    check_room(room)
    check_width(width)
    things = chosen(row, room)
    pours = going([len(run) for run in things], width)
    told = []
    for number, run in enumerate(things):
        told.extend(deeds_of_thing(number, run))
    for taken in pours:
        poured = pour([things[number] for number in taken])[0]
        told.extend(deeds_of_thing(len(things), poured))
        told.extend([("drop", number) for number in taken])
        things.append(poured)
    return told


class Work:
    def __init__(self, row, room, width):
        self.todo = all_deeds(row, room, width)
        self.things = {}
        self.closed = {}
        self.steps = 0

    def step(self):
        if not self.todo:
            return None
        deed = self.todo.pop(0)
        self.carry_out(deed)
        self.steps += 1
        return deed

    def shelf(self):
        return [(number, self.word_of(number), list(self.things[number])) for number in sorted(self.things)]

    def deeds_done(self):
        return self.steps

    def ended(self):
        if self.todo:
            return None
        rows = list(self.things.values())
        return list(rows[0]) if rows else []

    def carry_out(self, deed):
        number = deed[1]
        if deed[0] == "write":
            self.things.setdefault(number, []).append(deed[2])
        elif deed[0] == "close":
            self.closed[number] = True
        else:
            self.things.pop(number)
            self.closed.pop(number)

    def word_of(self, number):
        return "closed" if number in self.closed else "open"

    def stands_as(self, shelf):
        # How many they are is asked first, as it is cheap and mostly tells.
        return len(self.things) == len(shelf) and self.shelf() == shelf

    def count_anew(self):
        self.steps = 0


def is_thing(thing):
    if not isinstance(thing, tuple) or len(thing) != 3:
        return False
    return is_whole(thing[0]) and thing[1] in ("open", "closed") and is_row(thing[2])


def check_shelf(thing):
    if not isinstance(thing, list) or not all([is_thing(one) for one in thing]):
        raise NoShelf("a shelf is a list of tuples of a number, a word and a row")


def taken_up(row, room, width, shelf):
    work = Work(row, room, width)
    check_shelf(shelf)
    closed = [thing for thing in shelf if thing[1] == "closed"]
    # Work comes to just these closed things, and no open one, right behind the deed that closed or dropped
    # the last one: so the drops that lack are left, and so is all of the thing that was open.
    while not work.stands_as(closed):
        if work.step() is None:
            raise NoShelf("no such work has just these closed things")
    work.count_anew()
    return work
