"""Promises [4], [5], [6], [8], [91], [92], [93], [94]: pourwright.works."""

import copy
import itertools
import unittest

from pourwright.choosing import chosen
from pourwright.errors import NoRoom, NoShelf, NoWidth
from pourwright.goings import is_going
from pourwright.works import Work, taken_up
from tests.helper import FORTY, NO_NUMBERS, NO_ROOMS, NO_WIDTHS, ROWS, Refusals, nested, small_rows

A, B, C, D = (1, ""), (2, ""), (3, ""), (4, "a")
FALLING = [(4, ""), (3, ""), (2, ""), (1, "")]
MIXED = [(5, ""), (3, "a"), (4, ""), (1, ""), (2, ""), (9, ""), (0, ""), (3, "a"), (3, ""), (8, ""), (-1, "z")]
FORTY_ITEMS = [(place * 23 % 41 - 20, "ab"[place % 2]) for place in range(40)]
CASES = [
    ([], 1, 2), ([], 50, 8), ([A], 1, 2), ([B, A], 2, 2), ([B, A], 1, 2), ([C, B, A], 1, 2), ([C, B, A], 1, 3),
    ([A] * 4, 1, 2), (FALLING, 1, 2), (FALLING, 1, 3), (FALLING, 1, 8), (FALLING, 2, 2), (MIXED, 1, 2), (MIXED, 1, 3),
    (MIXED, 2, 2), (MIXED, 2, 3), (MIXED, 1, 4), (MIXED, 3, 2), (MIXED, 50, 2), (ROWS["alike"], 2, 2),
    (ROWS["up and down"], 1, 3), (ROWS["mixed"], 1, 2), (ROWS["falling"], 1, 4), (ROWS["falling by tags"], 1, 2),
]


def deeds_by_hand(row, room, width):
    """[91], word by word."""
    things = dict(enumerate(chosen(row, room)))
    there = sorted(things)
    deeds = []
    for number in there:
        deeds += [("write", number, item) for item in things[number]] + [("close", number)]
    size = 2 + (len(there) - 2) % (width - 1)
    while len(there) > 1:
        taken = sorted(sorted(there, key=lambda one: (len(things[one]), one))[:size])
        number = len(things)
        things[number] = sorted(sum([things[one] for one in taken], []))
        deeds += [("write", number, item) for item in things[number]] + [("close", number)]
        deeds += [("drop", one) for one in taken]
        there = [one for one in there if one not in taken] + [number]
        size = width
    return deeds


def shelf_by_hand(deeds):
    words, rows = {}, {}
    for deed in deeds:
        if deed[0] == "write":
            words[deed[1]] = "open"
            rows.setdefault(deed[1], []).append(deed[2])
        elif deed[0] == "close":
            words[deed[1]] = "closed"
        else:
            del words[deed[1]], rows[deed[1]]
    return [(number, words[number], list(rows[number])) for number in sorted(words)]


def closed_of(shelf):
    return [thing for thing in shelf if thing[1] == "closed"]


def open_writes(shelf):
    return [("write", number, item) for number, word, row in shelf if word == "open" for item in row]


def rest_of(work):
    told = []
    while True:
        deed = work.step()
        if deed is None:
            return told
        told.append(deed)


def told_of(work):
    return (work.shelf(), work.deeds_done(), work.ended())


class TestWork(Refusals, unittest.TestCase):
    def test_told(self):
        work = Work([C, B, A], 1, 2)
        told = [
            (("write", 0, C), [(0, "open", [C])]),
            (("close", 0), [(0, "closed", [C])]),
            (("write", 1, B), [(0, "closed", [C]), (1, "open", [B])]),
            (("close", 1), [(0, "closed", [C]), (1, "closed", [B])]),
            (("write", 2, A), [(0, "closed", [C]), (1, "closed", [B]), (2, "open", [A])]),
            (("close", 2), [(0, "closed", [C]), (1, "closed", [B]), (2, "closed", [A])]),
            (("write", 3, B), [(0, "closed", [C]), (1, "closed", [B]), (2, "closed", [A]), (3, "open", [B])]),
            (("write", 3, C), [(0, "closed", [C]), (1, "closed", [B]), (2, "closed", [A]), (3, "open", [B, C])]),
            (("close", 3), [(0, "closed", [C]), (1, "closed", [B]), (2, "closed", [A]), (3, "closed", [B, C])]),
            (("drop", 0), [(1, "closed", [B]), (2, "closed", [A]), (3, "closed", [B, C])]),
            (("drop", 1), [(2, "closed", [A]), (3, "closed", [B, C])]),
            (("write", 4, A), [(2, "closed", [A]), (3, "closed", [B, C]), (4, "open", [A])]),
            (("write", 4, B), [(2, "closed", [A]), (3, "closed", [B, C]), (4, "open", [A, B])]),
            (("write", 4, C), [(2, "closed", [A]), (3, "closed", [B, C]), (4, "open", [A, B, C])]),
            (("close", 4), [(2, "closed", [A]), (3, "closed", [B, C]), (4, "closed", [A, B, C])]),
            (("drop", 2), [(3, "closed", [B, C]), (4, "closed", [A, B, C])]),
            (("drop", 3), [(4, "closed", [A, B, C])]),
        ]
        self.assert_same(told_of(work), ([], 0, None))
        for number, (deed, shelf) in enumerate(told, start=1):
            self.assert_same(work.step(), deed)
            self.assert_same(told_of(work), (shelf, number, None if number < len(told) else [A, B, C]))
        for _ in range(3):
            self.assertIsNone(work.step())
            self.assert_same(told_of(work), ([(4, "closed", [A, B, C])], len(told), [A, B, C]))

    def test_no_items(self):
        for room, width in ((1, 2), (3, 5), (50, 8)):
            work = Work([], room, width)
            for _ in range(3):
                self.assert_same(told_of(work), ([], 0, []))
                self.assertIsNone(work.step())

    def test_one_run(self):
        work = Work([B, A], 2, 8)
        self.assert_same(rest_of(work), [("write", 0, A), ("write", 0, B), ("close", 0)])
        self.assert_same(told_of(work), ([(0, "closed", [A, B])], 3, [A, B]))

    def assert_work(self, row, room, width):
        deeds = deeds_by_hand(row, room, width)
        work = Work(row, room, width)
        for many, deed in enumerate(deeds):
            self.assert_same(told_of(work), (shelf_by_hand(deeds[:many]), many, None))
            self.assert_same(work.step(), deed)
        last = (shelf_by_hand(deeds), len(deeds), sorted(row))
        for _ in range(2):
            self.assert_same(told_of(work), last)
            self.assertIsNone(work.step())

    def test_deed_by_deed(self):
        for row, room, width in CASES:
            with self.subTest(row=row, room=room, width=width):
                self.assert_work(row, room, width)

    def test_small_rows(self):
        for row in small_rows(4):
            for room, width in ((1, 2), (1, 3), (2, 2)):
                self.assert_work(row, room, width)

    def test_all_rooms_and_widths(self):
        for room in list(range(1, 12)) + [20, 49, 50]:
            for width in range(2, 9):
                with self.subTest(room=room, width=width):
                    work = Work(FORTY_ITEMS, room, width)
                    self.assert_same(rest_of(work), deeds_by_hand(FORTY_ITEMS, room, width))
                    self.assert_same(work.ended(), sorted(FORTY_ITEMS))

    def test_great_rows(self):
        for name, row in ROWS.items():
            for room, width in ((1, 2), (1, 8), (3, 3), (50, 2)):
                with self.subTest(name=name, room=room, width=width):
                    work = Work(row, room, width)
                    self.assert_same(rest_of(work), deeds_by_hand(row, room, width))
                    self.assert_same(work.ended(), sorted(row))

    def test_the_pours_are_a_least_going(self):
        for row, room, width in CASES + [(FORTY_ITEMS, 1, 2), (FORTY_ITEMS, 2, 3), (ROWS["great"], 1, 7)]:
            lengths = [len(run) for run in chosen(row, room)]
            dropped = []
            for word, group in itertools.groupby(rest_of(Work(row, room, width)), key=lambda deed: deed[0]):
                if word == "drop":
                    dropped.append(tuple(deed[1] for deed in group))
            if lengths:
                self.assertIs(is_going(dropped, lengths, width), True)
            self.assertTrue(all(list(taken) == sorted(taken) for taken in dropped))

    def test_of_alike_ones_the_least_number_first(self):
        row = [(key, "") for key in (9, 8, 7, 6, 5)]
        dropped = [deed[1] for deed in rest_of(Work(row, 1, 2)) if deed[0] == "drop"]
        self.assertEqual(dropped, [0, 1, 2, 3, 4, 5, 6, 7])
        dropped = [deed[1] for deed in rest_of(Work(row, 1, 3)) if deed[0] == "drop"]
        self.assertEqual(dropped, [0, 1, 2, 3, 4, 5])
        dropped = [deed[1] for deed in rest_of(Work(row, 1, 4)) if deed[0] == "drop"]
        self.assertEqual(dropped, [0, 1, 2, 3, 4, 5])

    def test_the_shortest_are_told_in_rising_order(self):
        # The runs have 3, 1 and 2 items: the shortest is number 1, but what is taken first is told rising.
        row = [(7, ""), (8, ""), (9, ""), (5, ""), (1, ""), (2, "")]
        deeds = rest_of(Work(row, 1, 2))
        self.assertEqual([deed for deed in deeds if deed[0] == "drop"], [("drop", number) for number in (1, 2, 0, 3)])
        # Of 3, 2 and 1 items the shortest one is number 2, ahead of number 1.
        row = [(7, ""), (8, ""), (9, ""), (5, ""), (6, ""), (1, "")]
        deeds = rest_of(Work(row, 1, 2))
        self.assertEqual([deed for deed in deeds if deed[0] == "drop"], [("drop", number) for number in (1, 2, 0, 3)])

    def test_two_works_side_by_side(self):
        one, other = Work(MIXED, 2, 2), Work(MIXED, 2, 2)
        before = told_of(other)
        deeds = [one.step() for _ in range(9)]
        self.assert_same(told_of(other), before)
        self.assert_same([other.step() for _ in range(9)], deeds)
        self.assert_same(told_of(other), told_of(one))
        third = Work(FALLING, 1, 2)
        rest_of(third)
        self.assert_same(told_of(other), told_of(one))

    def test_own(self):
        for many in (0, 1, 5, 20, 10 ** 4):
            row = list(MIXED)
            work = Work(row, 2, 2)
            self.assertEqual(row, MIXED)
            row.clear()
            for _ in range(many):
                work.step()
            before = copy.deepcopy(told_of(work))
            self.assert_own(work.shelf)
            self.assert_own(work.ended)
            self.assert_own(work.deeds_done)
            self.assert_same(told_of(work), before)
            self.assert_same(rest_of(work), deeds_by_hand(MIXED, 2, 2)[many:])


class TestTakenUp(Refusals, unittest.TestCase):
    def assert_taken_up(self, row, room, width, shelf, left, last):
        """Taken up from a shelf: with the writes of the open thing ahead, what was left is left."""
        before = copy.deepcopy((row, shelf))
        work = taken_up(row, room, width, shelf)
        self.assertIs(work.__class__, Work)
        self.assert_same((row, shelf), before)
        wanted = open_writes(shelf) + left
        self.assert_same(told_of(work), (closed_of(shelf), 0, None if wanted else sorted(row)))
        for many, deed in enumerate(wanted, start=1):
            self.assert_same(work.step(), deed)
            self.assertEqual(work.deeds_done(), many)
        self.assertIsNone(work.step())
        self.assert_same(told_of(work), (last, len(wanted), sorted(row)))

    def test_behind_each_deed(self):
        for row, room, width in CASES:
            deeds = deeds_by_hand(row, room, width)
            last = shelf_by_hand(deeds)
            for many in range(len(deeds) + 1):
                with self.subTest(row=row, room=room, width=width, many=many):
                    shelf = shelf_by_hand(deeds[:many])
                    self.assert_taken_up(row, room, width, shelf, deeds[many:], last)

    def test_behind_some_deeds_of_great_rows(self):
        for row, room, width in ((FORTY_ITEMS, 1, 2), (FORTY_ITEMS, 2, 5), (ROWS["great"], 1, 2), (ROWS["great"], 5, 8)):
            deeds = deeds_by_hand(row, room, width)
            last = shelf_by_hand(deeds)
            for many in list(range(0, len(deeds), max(1, len(deeds) // 23))) + [len(deeds) - 1, len(deeds)]:
                self.assert_taken_up(row, room, width, shelf_by_hand(deeds[:many]), deeds[many:], last)

    def test_the_shelf_of_work_that_was_stopped(self):
        for row, room, width in CASES:
            many = 0
            while True:
                work = Work(row, room, width)
                for _ in range(many):
                    work.step()
                shelf = work.shelf()
                again = taken_up(row, room, width, shelf)
                self.assert_same(rest_of(again), open_writes(shelf) + rest_of(work))
                self.assert_same(again.shelf(), work.shelf())
                self.assert_same(again.ended(), sorted(row))
                if many >= len(deeds_by_hand(row, room, width)):
                    break
                many += 1

    def test_again_and_again(self):
        for row, room, width in CASES + [(FORTY_ITEMS, 3, 2)]:
            deeds = deeds_by_hand(row, room, width)
            for stride in (len(row) + 1, len(row) + 2, 2 * len(row) + 3):
                # A stride longer than the longest thing gets on with each stop.
                work = Work(row, room, width)
                done = 0
                stops = 0
                while work.ended() is None:
                    for _ in range(stride):
                        if work.step() is not None:
                            done += 1
                    shelf = work.shelf()
                    done -= len(open_writes(shelf))
                    self.assertEqual(closed_of(shelf), closed_of(shelf_by_hand(deeds[:done])))
                    work = taken_up(row, room, width, shelf)
                    self.assert_same(told_of(work)[:2], (closed_of(shelf), 0))
                    stops += 1
                    self.assertLess(stops, 1000)
                self.assert_same(work.shelf(), shelf_by_hand(deeds))
                self.assert_same(work.ended(), sorted(row))

    def test_taken_up_and_at_once_stopped(self):
        for many in range(0, len(deeds_by_hand(MIXED, 2, 2)) + 1):
            deeds = deeds_by_hand(MIXED, 2, 2)
            shelf = shelf_by_hand(deeds[:many])
            for _ in range(3):
                work = taken_up(MIXED, 2, 2, shelf)
                self.assert_same(work.shelf(), closed_of(shelf))
                shelf = work.shelf()
            # What was written of an open thing is lost each time.
            next_deed = taken_up(MIXED, 2, 2, shelf).step()
            self.assert_same(taken_up(MIXED, 2, 2, shelf).step(), next_deed)

    def test_does_again_at_most_what_was_open(self):
        for row, room, width in CASES:
            deeds = deeds_by_hand(row, room, width)
            for many in range(len(deeds) + 1):
                shelf = shelf_by_hand(deeds[:many])
                again = len(rest_of(taken_up(row, room, width, shelf))) - len(deeds[many:])
                self.assertEqual(again, sum(len(thing[2]) for thing in shelf if thing[1] == "open"))

    def test_open_things_of_all_kinds_at_all_places(self):
        deeds = deeds_by_hand(MIXED, 2, 2)
        more = [
            (0, "open", []), (1, "open", [A]), (-5, "open", [C, B, A]), (FORTY, "open", list(ROWS["great"])),
            (2, "open", [D, D]), (99, "open", list(MIXED)), (-FORTY, "open", [(-FORTY, "zzzzzzzz")]),
        ]
        for many in range(len(deeds) + 1):
            closed = closed_of(shelf_by_hand(deeds[:many]))
            wanted = rest_of(taken_up(MIXED, 2, 2, closed))
            for place in range(len(closed) + 1):
                for thing in more:
                    work = taken_up(MIXED, 2, 2, closed[:place] + [thing] + closed[place:])
                    self.assert_same(told_of(work)[:2], (closed, 0))
                    self.assert_same(rest_of(work), wanted)
            work = taken_up(MIXED, 2, 2, more + closed + more)
            self.assert_same(told_of(work)[:2], (closed, 0))
            self.assert_same(rest_of(work), wanted)

    def test_own(self):
        deeds = deeds_by_hand(MIXED, 2, 2)
        for many in (0, 1, 5, 14, 20, len(deeds)):
            row, shelf = list(MIXED), shelf_by_hand(deeds[:many])
            work = taken_up(row, 2, 2, shelf)
            before = copy.deepcopy(told_of(work))
            row.reverse()
            for thing in shelf:
                thing[2].append("spoiled")
            shelf.append("spoiled")
            self.assert_same(told_of(work), before)
            self.assert_own(work.shelf)
            self.assert_own(work.ended)
            self.assert_same(told_of(work), before)
            rest_of(work)
            self.assert_same(work.shelf(), shelf_by_hand(deeds))

    def test_two_taken_up_from_one_shelf(self):
        shelf = shelf_by_hand(deeds_by_hand(MIXED, 2, 2)[:9])
        one, other = taken_up(MIXED, 2, 2, shelf), taken_up(MIXED, 2, 2, shelf)
        before = told_of(other)
        deeds = rest_of(one)
        self.assert_same(told_of(other), before)
        self.assert_same(rest_of(other), deeds)


class TestNoShelf(Refusals, unittest.TestCase):
    def states(self, row, room, width):
        deeds = deeds_by_hand(row, room, width)
        return [closed_of(shelf_by_hand(deeds[:many])) for many in range(len(deeds) + 1)]

    def test_closed_ones_that_are_not_just_those(self):
        for row, room, width in CASES:
            states = self.states(row, room, width)
            refused = 0
            for closed in states:
                for shelf in self.changed(closed):
                    if closed_of(shelf) in states:
                        self.assertEqual(taken_up(row, room, width, shelf).shelf(), closed_of(shelf))
                    else:
                        refused += 1
                        self.assert_refused(NoShelf, taken_up, list(row), room, width, shelf)
            self.assertGreater(refused, 0)

    def changed(self, closed):
        yield closed + [(len(closed), "closed", [])]
        yield closed + [(len(closed), "closed", [A])]
        yield [(-1, "closed", [A])] + closed
        yield closed[::-1]
        yield closed + closed
        for at, (number, word, row) in enumerate(closed):
            ahead, behind = closed[:at], closed[at + 1:]
            yield ahead + behind
            yield ahead + [closed[at], closed[at]] + behind
            yield behind[:1] + ahead + [closed[at]] + behind[1:]
            for other in (number + 1, number - 1, -number - 1, FORTY):
                yield ahead + [(other, word, list(row))] + behind
            for other in (row[1:], row[:-1], row + [(FORTY, "")], [(-FORTY, "")] + row, row[::-1], row + row, [],
                          [(row[0][0], row[0][1] + "q")] + row[1:], row[:-1] + [(row[-1][0] + 1, row[-1][1])]):
                yield ahead + [(number, word, list(other))] + behind
            yield ahead + [(number, "open", list(row))] + behind
            yield ahead + [(number, "open", list(row)), (number, word, row[::-1] + [D])] + behind

    def test_of_another_row_room_or_width(self):
        shelf = shelf_by_hand(deeds_by_hand(FALLING, 1, 2)[:12])
        self.assertEqual(len(closed_of(shelf)), 4)
        taken_up(FALLING, 1, 2, shelf)
        for row, room, width in (
            (FALLING[::-1], 1, 2), (FALLING[:3], 1, 2), (FALLING + [(9, "")], 1, 2), ([], 1, 2), (FALLING, 2, 2),
        ):
            self.assert_refused(NoShelf, taken_up, list(row), room, width, shelf)
        poured = shelf_by_hand(deeds_by_hand(FALLING, 1, 3))
        self.assertEqual(poured, [(5, "closed", FALLING[::-1])])
        self.assert_refused(NoShelf, taken_up, list(FALLING), 1, 2, poured)
        self.assert_refused(NoShelf, taken_up, list(FALLING), 1, 4, poured)

    def test_things_of_another_form(self):
        deeds = deeds_by_hand([B, A, C, A], 1, 2)
        shelf = shelf_by_hand(deeds[:4])
        self.assert_same(shelf, [(0, "closed", [B]), (1, "open", [A, C])])
        taken_up([B, A, C, A], 1, 2, shelf)
        for thing in [
            [1, "open", [A, C]], (1, "open"), (1, "open", [A], None), (1, "open", [A], [A]), ("open", [A]), (1,), (),
            (True, "open", [A]), (False, "open", []), (None, "open", [A]), ("1", "open", [A]), ([1], "open", [A]),
            ((1,), "open", [A]), ({}, "open", [A]), (1, "Open", [A]), (1, "shut", [A]), (1, "", [A]), (1, "open ", [A]),
            (1, "opened", [A]), (1, "close", [A]), (1, None, [A]), (1, True, [A]), (1, 0, [A]), (1, ["open"], [A]),
            (1, ("open",), [A]), (1, {"open": 1}, [A]), (1, "open", (A, C)), (1, "open", None), (1, "open", "1 3"),
            (1, "open", 1), (1, "open", True), (1, "open", {}), (1, "open", {A: C}), (1, "open", A), (1, "open", [[1, ""]]),
            (1, "open", [(1, "", "")]), (1, "open", [(1,)]), (1, "open", [(True, "")]), (1, "open", [("1", "")]),
            (1, "open", [(1, "A")]), (1, "open", [(1, "abcdefghi")]), (1, "open", [(1, None)]), (1, "open", [A, None]),
            (1, "open", [A, 1]), (1, "open", [[A]]), (1, "open", [A, "1"]), (1, "open", [A] * 201), None, "open", "", 1,
            True, False, [], {}, {1: "open"}, [(1, "open", [A])], ((1, "open", [A]),), nested("list", 9),
            nested("tuple", 9), (1, "open", nested("list", 8)), (nested("dict", 8), "open", [A]),
        ]:
            for shelf in ([(0, "closed", [B]), thing], [thing, (0, "closed", [B])], [thing]):
                with self.subTest(shelf=shelf):
                    self.assert_refused(NoShelf, taken_up, [B, A, C, A], 1, 2, shelf)

    def test_closed_things_of_another_form(self):
        row = [A, (0, ""), B]
        shelf = shelf_by_hand(deeds_by_hand(row, 1, 2)[:5])
        self.assert_same(shelf, [(0, "closed", [A]), (1, "closed", [(0, ""), B])])
        taken_up(row, 1, 2, shelf)
        for first, second in [
            ((False, "closed", [A]), shelf[1]), (shelf[0], (True, "closed", [(0, ""), B])),
            ((0, "closed", [(True, "")]), shelf[1]), (shelf[0], (1, "closed", [(False, ""), B])),
            ([0, "closed", [A]], shelf[1]), ((0, "closed", (A,)), shelf[1]), ((0, "closed", [[1, ""]]), shelf[1]),
            ((0, "closed"), shelf[1]), ((0, "closed", [A], 0), shelf[1]), ((0, "CLOSED", [A]), shelf[1]),
            ((0, "shut", [A]), shelf[1]), (shelf[0], None), (shelf[0], []), (shelf[0], "1"), (shelf[1], shelf[0]),
        ]:
            with self.subTest(first=first, second=second):
                self.assert_refused(NoShelf, taken_up, list(row), 1, 2, [first, second])

    def test_what_is_no_list(self):
        for row in ([], [A], FALLING):
            for thing in NO_NUMBERS + [0, 1, FORTY, (), {}, "", ((0, "closed", [A]),), {0: ("closed", [A])}]:
                if thing == [] and isinstance(thing, list):
                    continue
                with self.subTest(row=row, thing=thing):
                    self.assert_refused(NoShelf, taken_up, list(row), 1, 2, thing)
        self.assert_refused(NoShelf, taken_up, [], 1, 2, [(0, "closed", [])])
        self.assert_same(told_of(taken_up([], 1, 2, [])), ([], 0, []))
        self.assert_same(told_of(taken_up([], 1, 2, [(3, "open", [A])])), ([], 0, []))

    def test_no_room_then_no_width_then_no_shelf(self):
        shelves = ([], None, [(0, "closed", [B])], [(0, "closed", [D])], "x", [None])
        for thing in NO_ROOMS:
            for row in ([], [B, A]):
                self.assert_refused(NoRoom, Work, row, thing, 2)
                self.assert_refused(NoRoom, Work, row, thing, thing)
                for shelf in shelves:
                    self.assert_refused(NoRoom, taken_up, row, thing, 2, shelf)
                for width in (1, 9, True, None, "2", [2]):
                    self.assert_refused(NoRoom, Work, row, thing, width)
                    self.assert_refused(NoRoom, taken_up, row, thing, width, None)
        for thing in NO_WIDTHS:
            for row in ([], [B, A]):
                self.assert_refused(NoWidth, Work, row, 1, thing)
                for shelf in shelves:
                    self.assert_refused(NoWidth, taken_up, row, 1, thing, shelf)


if __name__ == "__main__":
    unittest.main()
