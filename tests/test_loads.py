"""Promises [4], [5], [31]: pourwright.loads."""

import unittest

from pourwright.errors import NoRoom
from pourwright.loads import loads, natural
from tests.helper import NO_ROOMS, ROWS, Refusals, by_hand_rises, small_rows


class TestLoads(Refusals, unittest.TestCase):
    def test_told_loads(self):
        row = [(5, ""), (4, ""), (4, "a"), (1, ""), (9, ""), (4, ""), (2, "")]
        told = {
            1: [[item] for item in row],
            2: [[(4, ""), (5, "")], [(1, ""), (4, "a")], [(4, ""), (9, "")], [(2, "")]],
            3: [[(4, ""), (4, "a"), (5, "")], [(1, ""), (4, ""), (9, "")], [(2, "")]],
            6: [[(1, ""), (4, ""), (4, ""), (4, "a"), (5, ""), (9, "")], [(2, "")]],
            7: [[(1, ""), (2, ""), (4, ""), (4, ""), (4, "a"), (5, ""), (9, "")]],
            8: [[(1, ""), (2, ""), (4, ""), (4, ""), (4, "a"), (5, ""), (9, "")]],
            50: [[(1, ""), (2, ""), (4, ""), (4, ""), (4, "a"), (5, ""), (9, "")]],
        }
        for room, runs in told.items():
            with self.subTest(room=room):
                self.assert_same(loads(row, room), runs)

    def test_a_row_without_items_has_no_loads(self):
        for room in (1, 2, 3, 50):
            self.assert_same(loads([], room), [])

    def test_rows_of_all_kinds(self):
        for name, row in ROWS.items():
            for room in {1, 2, 3, 49, 50, min(max(len(row), 1), 50), min(len(row) + 1, 50)}:
                with self.subTest(name=name, room=room):
                    runs = loads(row, room)
                    cut = [sorted(row[start:start + room]) for start in range(0, len(row), room)]
                    self.assert_same(runs, cut)
                    self.assertTrue(all(len(run) == room for run in runs[:-1]))
                    self.assertTrue(all(1 <= len(run) <= room for run in runs[-1:]))

    def test_no_room(self):
        for thing in NO_ROOMS:
            for row in ([], ROWS["mixed"]):
                with self.subTest(thing=thing):
                    self.assert_refused(NoRoom, loads, row, thing)

    def test_each_room(self):
        for room in range(1, 51):
            self.assertEqual(len(loads(ROWS["great"], room)), -(-200 // room))

    def test_own(self):
        for row in ROWS.values():
            for room in (1, 2, 3, 50):
                self.assert_own(loads, list(row), room)


class TestNatural(Refusals, unittest.TestCase):
    def test_told_runs(self):
        told = [
            ([], []),
            ([(1, "")], [[(1, "")]]),
            ([(1, ""), (2, "")], [[(1, ""), (2, "")]]),
            ([(2, ""), (1, "")], [[(2, "")], [(1, "")]]),
            ([(1, ""), (1, "")], [[(1, ""), (1, "")]]),
            ([(1, "b"), (1, "a")], [[(1, "b")], [(1, "a")]]),
            ([(1, "a"), (1, "b")], [[(1, "a"), (1, "b")]]),
            ([(3, ""), (4, ""), (1, ""), (1, ""), (0, ""), (7, "")],
             [[(3, ""), (4, "")], [(1, ""), (1, "")], [(0, ""), (7, "")]]),
        ]
        for row, runs in told:
            with self.subTest(row=row):
                self.assert_same(natural(row), runs)

    def assert_natural(self, row):
        runs = natural(row)
        self.assertEqual(sum(runs, []), row)
        self.assertTrue(all(run and by_hand_rises(run) for run in runs))
        self.assertTrue(all(ahead[-1] > behind[0] for ahead, behind in zip(runs, runs[1:])))

    def test_rows_of_all_kinds(self):
        for name, row in ROWS.items():
            with self.subTest(name=name):
                self.assert_natural(row)

    def test_small_rows(self):
        for row in small_rows(5):
            self.assert_natural(row)

    def test_rising_and_falling_rows(self):
        self.assertEqual(len(natural(ROWS["great and rising"])), 1)
        self.assertEqual(len(natural(ROWS["great and falling"])), 100)

    def test_own(self):
        for row in ROWS.values():
            self.assert_own(natural, list(row))


if __name__ == "__main__":
    unittest.main()
