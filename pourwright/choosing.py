"""Runs made by choosing from what the room keeps, and the paper for an item that is late."""

from pourwright.bounds import check_room, is_below
from pourwright.items import less


class Chooser:
    def __init__(self, room):
        check_room(room)
        self.room = room
        self.kept = []
        self.last = None

    def give(self, item):
        told = []
        if len(self.kept) == self.room:
            told = self.let_out()
        self.kept.append(item)
        return told

    def finish(self):
        told = []
        while self.kept:
            told.extend(self.let_out())
        if told:
            told.append(("end",))
        self.last = None
        return told

    def let_out(self):
        told = []
        able = [item for item in self.kept if self.may_go(item)]
        if not able:
            told.append(("end",))
            able = self.kept
        self.last = min(able)
        self.kept.remove(self.last)
        told.append(("out", self.last))
        return told

    def may_go(self, item):
        return self.last is None or not less(item, self.last)


def chosen(row, room):
    chooser = Chooser(room)
    told = []
    for item in row:
        told.extend(chooser.give(item))
    told.extend(chooser.finish())
    return runs_told(told)


def runs_told(told):
    runs = []
    run = []
    for deed in told:
        if deed[0] == "out":
            run.append(deed[1])
        else:
            runs.append(run)
            run = []
    return runs


def places_ahead(row, at):
    return [place for place in range(at) if less(row[at], row[place])]


def late(row, room):
    check_room(room)
    for at in range(len(row)):
        ahead = places_ahead(row, at)
        if len(ahead) >= room:
            return (at, ahead[:room])
    return None


def is_late(thing, row, room):
    check_room(room)
    if not isinstance(thing, tuple) or len(thing) != 2:
        return False
    if not is_below(thing[0], len(row)) or not isinstance(thing[1], list):
        return False
    return len(thing[1]) == room and are_greater_ahead(thing[1], row, thing[0])


def are_greater_ahead(places, row, at):
    behind = -1
    for place in places:
        # Each place is greater than the one told last, so none stands there twice.
        if not is_below(place, at) or place <= behind or not less(row[at], row[place]):
            return False
        behind = place
    return True
