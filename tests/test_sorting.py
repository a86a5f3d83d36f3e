"""Promises [4], [5], [6], [81], [82]: pourwright.sorting."""

import unittest

from pourwright.choosing import chosen
from pourwright.errors import NoDrives, NoRoom
from pourwright.layouts import level_for
from pourwright.sorting import sort_on
from tests.helper import NO_DRIVES, NO_ROOMS, ROWS, Refusals, small_rows

FORTY_ITEMS = {
    "forty": [(place * 23 % 41 - 20, "ab"[place % 2]) for place in range(40)],
    "forty falling": [(-place, "") for place in range(40)],
    "forty alike": [(7, "x")] * 40,
    "forty of few": [(place * place % 5, "") for place in range(40)],
}
ALL_ROWS = {**ROWS, **FORTY_ITEMS}
ROOMS = (1, 2, 3, 4, 5, 7, 10, 20, 49, 50)


def level_by_hand(drives, many):
    layout = [1] + [0] * (drives - 1)
    number = 0
    while sum(layout) < many:
        layout = [layout[0] + layout[drive + 1] for drive in range(drives - 1)] + [0]
        number += 1
    return number, layout


def sort_by_hand(row, room, drives):
    """[81], word by word, with lists of runs alone."""
    runs = chosen(row, room)
    if not runs:
        return ([], 0, 0, 0)
    number, wanted = level_by_hand(drives, len(runs))
    lying = [[] for _ in range(drives)]
    for run in runs:
        lack = [wanted[drive] - len(lying[drive]) for drive in range(drives)]
        lying[lack.index(max(lack))].append(run)
    lying = [[[]] * (wanted[drive] - len(lying[drive])) + lying[drive] for drive in range(drives)]
    moved = phases = 0
    while sum(len(there) for there in lying) > 1:
        target = [len(there) for there in lying].index(0)
        sources = [drive for drive in range(drives) if drive != target]
        for _ in range(min(len(lying[drive]) for drive in sources)):
            poured = sorted(sum([lying[drive].pop(0) for drive in sources], []))
            moved += len(poured)
            lying[target].append(poured)
        phases += 1
    return (sum(lying, [])[0], len(runs), moved, phases)


class TestSortOn(Refusals, unittest.TestCase):
    def test_told(self):
        row = [(key, "") for key in (5, 3, 4, 1, 2, 9, 0)]
        right = sorted(row)
        told = [
            # The runs are 5 | 3 4 | 1 2 9 | 0. At level (3, 2, 0) the first, second and last lie on drive 0.
            (row, 1, 3, (right, 4, (1 + 5) + 2 + 7, 3)),
            # At level (2, 2, 1, 0) drive 2 has but an empty run.
            (row, 1, 4, (right, 4, 3 + 7, 2)),
            (row, 1, 5, (right, 4, 7, 1)),
            (row, 3, 3, (right, 2, 7, 1)),
            (row, 3, 6, (right, 2, 7, 1)),
            (row, 7, 3, (right, 1, 0, 0)),
            (row, 50, 6, (right, 1, 0, 0)),
            ([(1, "a")], 1, 3, ([(1, "a")], 1, 0, 0)),
            ([(2, ""), (1, "")], 1, 3, ([(1, ""), (2, "")], 2, 2, 1)),
            ([(2, ""), (1, "")], 2, 3, ([(1, ""), (2, "")], 1, 0, 0)),
        ]
        for given, room, drives, wanted in told:
            with self.subTest(room=room, drives=drives):
                self.assert_same(sort_on(given, room, drives), wanted)

    def test_no_items(self):
        for room in (1, 2, 50):
            for drives in range(3, 7):
                self.assert_same(sort_on([], room, drives), ([], 0, 0, 0))

    def test_by_hand(self):
        for name, row in ALL_ROWS.items():
            for room in ROOMS:
                for drives in range(3, 7):
                    with self.subTest(name=name, room=room, drives=drives):
                        told = sort_on(row, room, drives)
                        self.assertIs(told.__class__, tuple)
                        self.assert_same(told, sort_by_hand(row, room, drives))
                        self.assert_same(told[0], sorted(row))
                        self.assertEqual(told[1], len(chosen(row, room)))
                        self.assertEqual(told[3], level_for(drives, told[1]))

    def test_small_rows(self):
        for row in small_rows(5):
            for room in (1, 2, 3):
                for drives in (3, 4, 6):
                    self.assert_same(sort_on(row, room, drives), sort_by_hand(row, room, drives))

    def test_one_run_moves_nothing(self):
        for name, row in ALL_ROWS.items():
            for room in range(1, 51):
                told = sort_on(row, room, 3)
                self.assertEqual(told[1] <= 1, told[2:] == (0, 0), (name, room))

    def test_with_a_drive_more_never_more_phases(self):
        for row in list(ALL_ROWS.values()) + list(small_rows(4)):
            for room in (1, 2, 3, 10):
                phases = [sort_on(row, room, drives)[3] for drives in range(3, 7)]
                self.assertEqual(phases, sorted(phases, reverse=True))

    def test_with_a_greater_room_never_more_runs(self):
        for row in list(ALL_ROWS.values()) + list(small_rows(4)):
            runs = [sort_on(row, room, 4)[1] for room in range(1, 51 if len(row) > 4 else 6)]
            self.assertEqual(runs, sorted(runs, reverse=True))

    def test_own(self):
        for row in ALL_ROWS.values():
            for room, drives in ((1, 3), (3, 4), (50, 6)):
                self.assert_own(sort_on, list(row), room, drives)


class TestRefused(Refusals, unittest.TestCase):
    def test_no_room(self):
        for thing in NO_ROOMS:
            for row in ([], [(1, "")], FORTY_ITEMS["forty"]):
                with self.subTest(thing=thing):
                    self.assert_refused(NoRoom, sort_on, row, thing, 3)

    def test_no_drives(self):
        for thing in NO_DRIVES:
            for row in ([], [(1, "")], FORTY_ITEMS["forty"]):
                with self.subTest(thing=thing):
                    self.assert_refused(NoDrives, sort_on, row, 3, thing)

    def test_no_room_goes_ahead_of_no_drives(self):
        for room in NO_ROOMS:
            for drives in (2, 7, 0, True, None, "3", [3], (), {}):
                self.assert_refused(NoRoom, sort_on, [], room, drives)
                self.assert_refused(NoRoom, sort_on, [(1, "")], room, drives)


if __name__ == "__main__":
    unittest.main()
