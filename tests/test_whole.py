"""Promises [1] to [8] over the whole program: every way leads to the sorted row, and none of them beats the least."""

import itertools
import unittest

from pourwright.choosing import chosen
from pourwright.desk import Desk
from pourwright.errors import NoDrives, NoRoom, NoWidth
from pourwright.goings import going, is_going, least_moved, least_plan
from pourwright.house import House
from pourwright.items import far
from pourwright.layers import are_layers, fewest_phases, layers
from pourwright.layouts import led, level, level_for, phases_from, spread
from pourwright.loads import loads, natural
from pourwright.plans import done, is_plan, moved, order, passes
from pourwright.pours import apart, first_wrong, pour, together
from pourwright.sorting import sort_on
from pourwright.tables import fewest_passes, is_table, level_plan, neighbour_plan, table
from pourwright.texts import read_row, show_row
from pourwright.works import Work, taken_up
from tests.helper import NO_DRIVES, NO_ROOMS, NO_WIDTHS, ROWS, Refusals, small_rows

SOME_ROWS = {
    "forty": [(place * 23 % 41 - 20, "ab"[place % 2]) for place in range(40)],
    "forty of few": [(place * place % 7, "") for place in range(40)],
    **{name: row for name, row in ROWS.items() if len(row) < 40},
}


def all_runs(row):
    for room in (1, 2, 3, 7, 50):
        yield loads(row, room)
        yield chosen(row, room)
    yield natural(row)


def some_plans(lengths, width):
    yield least_plan(lengths, width)
    yield level_plan(len(lengths), width)
    if len(lengths) <= 12:
        yield neighbour_plan(lengths, width)
    # One run behind the other, and the same from the other end.
    plan = 0
    for number in range(1, len(lengths)):
        plan = (plan, number)
    yield plan
    plan = len(lengths) - 1
    for number in range(len(lengths) - 2, -1, -1):
        plan = (number, plan)
    yield plan


class TestRows(Refusals, unittest.TestCase):
    """[6]: one run in the end, and it is the sorted row."""

    def test_any_runs_and_any_plan(self):
        for name, row in SOME_ROWS.items():
            for runs in all_runs(row):
                if not runs:
                    self.assertEqual(row, [])
                    continue
                lengths = [len(run) for run in runs]
                for width in (2, 3, 8):
                    for plan in some_plans(lengths, width):
                        self.assertTrue(is_plan(plan, len(runs), width))
                        self.assert_same(done(plan, runs), sorted(row))

    def test_any_drives(self):
        for name, row in SOME_ROWS.items():
            for room in (1, 2, 5, 50):
                for drives in range(3, 7):
                    self.assert_same(sort_on(row, room, drives)[0], sorted(row))

    def test_phases_of_a_house(self):
        for layout in ((3, 2, 0), (1, 0, 2), (2, 2, 1, 0), (0, 1, 2, 2), (4, 3, 2, 0), (1, 3, 0, 2)):
            phases = fewest_phases(layout)
            house = House(len(layout))
            items = []
            for drive, many in enumerate(layout):
                for number in range(many):
                    run = sorted([(drive * 7 % 5, "a"), (number * 3 % 4, ""), (drive + number, "z")])
                    items += run
                    house.lay(drive, run)
            now = layout
            for phase in phases:
                for _ in range(phase[2]):
                    house.pour(phase[1], phase[0])
                now = led(now, phase)
                self.assertEqual(house.lying(), now)
            self.assertEqual(sum(now), 1)
            self.assertEqual(house.runs(now.index(1)), [sorted(items)])

    def test_any_stops(self):
        for name, row in SOME_ROWS.items():
            for room, width in ((1, 2), (2, 3), (50, 8)):
                for strides in ((len(row) + 1,), (1, len(row) + 1), (2, 3, len(row) + 2), (10 ** 4,)):
                    work = Work(row, room, width)
                    for stride in itertools.cycle(strides):
                        for _ in range(stride):
                            work.step()
                        if work.ended() is not None:
                            break
                        work = taken_up(row, room, width, work.shelf())
                    self.assert_same(work.ended(), sorted(row))
                    self.assertEqual([thing[1:] for thing in work.shelf()], [("closed", sorted(row))] if row else [])

    def test_written_and_read(self):
        for name, row in ROWS.items():
            self.assert_same(read_row(show_row(row)), row)
            desk = Desk()
            if row:
                desk.say("add " + show_row(row))
            self.assert_same(read_row(desk.say("sorted")), sorted(row))


class TestFew(Refusals, unittest.TestCase):
    """[7]: nothing is less than what is told as the least, and there is a paper for it."""

    def test_no_runs_are_fewer_than_those_of_choosing(self):
        for row in list(ROWS.values()) + list(small_rows(4)):
            for room in (1, 2, 3, 50):
                runs = chosen(row, room)
                self.assertLessEqual(len(runs), len(loads(row, room)))
                self.assertLessEqual(len(runs), len(natural(row)))
                self.assertEqual(len(runs) == 1, row != [] and far(row) < room)

    def test_no_plan_moves_less(self):
        for name, row in SOME_ROWS.items():
            for room in (1, 2, 3):
                lengths = [len(run) for run in chosen(row, room)]
                if not lengths:
                    continue
                for width in (2, 3, 8):
                    least = least_moved(lengths, width)
                    self.assertIs(is_going(going(lengths, width), lengths, width), True)
                    for plan in some_plans(lengths, width):
                        self.assertGreaterEqual(moved(plan, lengths), least)
                        self.assertGreaterEqual(passes(plan), fewest_passes(len(lengths), width))
                        if len(lengths) <= 12 and order(plan) == sorted(order(plan)):
                            told = table(lengths, width)
                            self.assertIs(is_table(told, lengths, width), True)
                            self.assertGreaterEqual(moved(plan, lengths), told[(0, len(lengths))])

    def test_work_moves_just_the_least(self):
        for name, row in SOME_ROWS.items():
            for room, width in ((1, 2), (1, 3), (2, 2), (3, 8)):
                runs = chosen(row, room)
                work = Work(row, room, width)
                writes = 0
                deed = work.step()
                while deed is not None:
                    writes += deed[0] == "write"
                    deed = work.step()
                self.assertEqual(writes, len(row) + (least_moved([len(run) for run in runs], width) if runs else 0))

    def test_no_row_of_phases_is_shorter(self):
        for drives, most in ((3, 8), (4, 9)):
            for number in range(6):
                layout = level(drives, number)
                if sum(layout) <= most:
                    told = layers(layout)
                    self.assertIs(are_layers(told, layout), True)
                    self.assertEqual(len(fewest_phases(layout)), len(told) - 1)
                    self.assertEqual(len(phases_from(layout)), number)
                    self.assertEqual(len(told) - 1, number)

    def test_spread_runs_come_to_one_by_the_phases_of_their_level(self):
        for drives in range(3, 7):
            for many in (0, 1, 2, 5, 17, 100):
                came, lacks = spread(drives, many)
                number = level_for(drives, many)
                now = tuple(one + other for one, other in zip(came, lacks))
                self.assertEqual(now, level(drives, number))
                for phase in phases_from(now):
                    now = led(now, phase)
                self.assertEqual(sum(now), 1)


class TestTraces(Refusals, unittest.TestCase):
    """[1]: a trace that anybody can look through."""

    def test_of_all_runs(self):
        for name, row in SOME_ROWS.items():
            for runs in all_runs(row):
                if len(runs) <= 16:
                    poured, trace = pour(runs)
                    self.assertEqual(poured, sorted(row))
                    self.assertIsNone(first_wrong(runs, trace))
                    self.assertEqual(together(runs, trace), poured)
                    self.assertEqual(apart(poured, trace, len(runs)), runs)


class TestRefusals(Refusals, unittest.TestCase):
    """[5]: wherever a room, a width or a number of drives is handed in, what is none is refused ahead of all else."""

    def test_rooms_widths_and_drives(self):
        row = [(2, ""), (1, "")]
        for thing in NO_ROOMS:
            for call in (
                lambda: loads(row, thing), lambda: chosen(row, thing), lambda: sort_on(row, thing, 3),
                lambda: Work(row, thing, 2), lambda: taken_up(row, thing, 2, None),
            ):
                self.assert_refused(NoRoom, call)
        for thing in NO_WIDTHS:
            for call in (
                lambda: is_plan(None, 2, thing), lambda: going([1, 2], thing), lambda: least_moved([1, 2], thing),
                lambda: table([1, 2], thing), lambda: level_plan(2, thing), lambda: fewest_passes(2, thing),
                lambda: Work(row, 1, thing), lambda: taken_up(row, 1, thing, None),
            ):
                self.assert_refused(NoWidth, call)
        for thing in NO_DRIVES:
            for call in (
                lambda: House(thing), lambda: level(thing, 1), lambda: level_for(thing, 1), lambda: spread(thing, 1),
                lambda: sort_on(row, 1, thing),
            ):
                self.assert_refused(NoDrives, call)
        self.assert_same(row, [(2, ""), (1, "")])


if __name__ == "__main__":
    unittest.main()
