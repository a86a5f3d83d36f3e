"""Promises [4], [5], [6], [61], [62], [63]: pourwright.house."""

import copy
import itertools
import unittest
from collections import Counter

from pourwright.errors import Bare, NoDrive, NoDrives, NotRising
from pourwright.house import House
from pourwright.pours import pour
from tests.helper import FORTY, NO_DRIVES, NO_NUMBERS, ROWS, Refusals, by_hand_rises

A, B, C = (1, ""), (1, "a"), (2, "")
FALLING = [C, A]


def told_of(house, drives):
    return ([house.runs(drive) for drive in range(drives)], house.lying(), house.moved_items(), house.deeds())


def filled(drives, each=2):
    """A house with so many runs on each drive but the last one."""
    house = House(drives)
    for number in range(each):
        for drive in range(drives - 1):
            house.lay(drive, [(drive, ""), (number + 6, "x"), (number + 6, "x")][:drive + 1])
    return house


class ByHand:
    """[61] and [63], word by word, for deeds that are not refused."""

    def __init__(self, drives):
        self.runs = [[] for drive in range(drives)]
        self.moved = 0
        self.deeds = []

    def lay(self, drive, run):
        self.runs[drive].append(list(run))
        self.deeds.append(("lay", drive, len(run)))

    def pour(self, sources, target):
        taken = [self.runs[drive].pop(0) for drive in sources]
        row = sorted(sum(taken, []))
        self.runs[target].append(row)
        self.moved += len(row)
        self.deeds.append(("pour", tuple(sources), target, len(row)))
        return row

    def told(self):
        return (self.runs, tuple(len(runs) for runs in self.runs), self.moved, self.deeds)


class TestHouse(Refusals, unittest.TestCase):
    def test_just_made(self):
        for drives in range(3, 7):
            self.assert_same(told_of(House(drives), drives), ([[]] * drives, (0,) * drives, 0, []))

    def test_laid_and_poured(self):
        house = House(3)
        self.assertIsNone(house.lay(0, [A, C]))
        self.assertIsNone(house.lay(1, [B]))
        self.assertIsNone(house.lay(0, [C]))
        self.assert_same(told_of(house, 3), (
            [[[A, C], [C]], [[B]], []], (2, 1, 0), 0, [("lay", 0, 2), ("lay", 1, 1), ("lay", 0, 1)],
        ))
        self.assert_same(house.pour([1, 0], 2), [A, B, C])
        self.assert_same(told_of(house, 3), (
            [[[C]], [], [[A, B, C]]], (1, 0, 1), 3,
            [("lay", 0, 2), ("lay", 1, 1), ("lay", 0, 1), ("pour", (1, 0), 2, 3)],
        ))
        self.assert_same(house.pour((0, 2), 1), [A, B, C, C])
        self.assert_same(told_of(house, 3), (
            [[], [[A, B, C, C]], []], (0, 1, 0), 7,
            [("lay", 0, 2), ("lay", 1, 1), ("lay", 0, 1), ("pour", (1, 0), 2, 3), ("pour", (0, 2), 1, 4)],
        ))

    def test_empty_runs(self):
        house = House(3)
        house.lay(0, [])
        house.lay(0, [A])
        house.lay(1, [])
        house.lay(1, [C])
        self.assert_same(house.lying(), (2, 2, 0))
        self.assert_same(house.pour([0, 1], 2), [])
        self.assert_same(told_of(house, 3), (
            [[[A]], [[C]], [[]]], (1, 1, 1), 0,
            [("lay", 0, 0), ("lay", 0, 1), ("lay", 1, 0), ("lay", 1, 1), ("pour", (0, 1), 2, 0)],
        ))
        self.assert_same(house.pour([2, 1], 0), [C])
        self.assert_same(house.runs(0), [[A], [C]])
        self.assert_same(house.moved_items(), 1)

    def test_first_laid_is_first_poured(self):
        house = House(3)
        for key in range(5):
            house.lay(0, [(key, "")])
            house.lay(1, [(key + 10, "")])
        for key in range(5):
            self.assert_same(house.pour([0, 1], 2), [(key, ""), (key + 10, "")])
        self.assert_same(house.runs(2), [[(key, ""), (key + 10, "")] for key in range(5)])

    def test_a_target_that_has_runs(self):
        house = filled(4)
        house.lay(3, [(-1, "")])
        row = house.pour([0, 1], 3)
        self.assert_same(house.runs(3), [[(-1, "")], row])
        row = house.pour([1, 2], 0)
        self.assertEqual(house.runs(0)[-1], row)
        self.assert_same(house.lying(), (2, 0, 1, 2))

    def test_all_sources_and_targets(self):
        for drives in range(3, 7):
            for target in range(drives):
                others = [drive for drive in range(drives) if drive != target]
                for many in range(2, drives):
                    for sources in itertools.permutations(others, many):
                        house, by_hand = House(drives), ByHand(drives)
                        for drive in range(drives):
                            for run in ([(drive, ""), (5, "x")], [(9, "")][:drive]):
                                house.lay(drive, run)
                                by_hand.lay(drive, run)
                        handed = list(sources) if (target + many) % 2 else sources
                        self.assert_same(house.pour(handed, target), by_hand.pour(sources, target))
                        self.assert_same(told_of(house, drives), by_hand.told())

    def test_alike_items_go_as_the_run_that_is_poured(self):
        # Alike items are the same to look at; so the run is held against a pour in the order told.
        runs = {0: [A, A, C], 1: [A, B, B], 2: [A, C, C], 3: [B, C]}
        for sources in itertools.permutations(range(4), 3):
            house = House(5)
            for drive, run in runs.items():
                house.lay(drive, run)
            wanted = pour([runs[drive] for drive in sources])[0]
            self.assert_same(house.pour(list(sources), 4), wanted)
            self.assert_same(house.deeds()[-1], ("pour", sources, 4, len(wanted)))

    def test_many_deeds(self):
        for drives in range(3, 7):
            house, by_hand = House(drives), ByHand(drives)
            laid = []
            for number in range(150):
                drive = number * 7 % drives
                run = sorted([(place * number % 13, "ab"[place % 2]) for place in range(number % 5)])
                house.lay(drive, run)
                by_hand.lay(drive, run)
                laid.extend(run)
                sources = [one for one in range(drives) if house.lying()[one] and one != number % drives]
                if number % 3 == 0 and len(sources) > 1:
                    handed = sources[::-1] if number % 2 else tuple(sources)
                    self.assert_same(house.pour(handed, number % drives), by_hand.pour(handed, number % drives))
                self.assert_same(told_of(house, drives), by_hand.told())
                items = [item for drive in range(drives) for run in house.runs(drive) for item in run]
                self.assertEqual(Counter(items), Counter(laid))
                self.assertTrue(all(by_hand_rises(run) for drive in range(drives) for run in house.runs(drive)))

    def test_all_poured_to_one_run(self):
        for name, row in ROWS.items():
            house = House(3)
            for number, item in enumerate(row):
                house.lay(number % 2, [item])
            while sum(house.lying()) > 1:
                there = [drive for drive in range(3) if house.lying()[drive]]
                if len(there) == 1:
                    # All lie on one drive: an empty run is what they can be poured with.
                    house.lay((there[0] + 1) % 3, [])
                else:
                    house.pour(there[:2], 3 - there[0] - there[1])
            rest = sum([house.runs(drive) for drive in range(3)], [])
            self.assertEqual(rest, [sorted(row)] if row else [], name)

    def test_two_houses_side_by_side(self):
        one, other = filled(4), filled(4)
        before = told_of(other, 4)
        one.pour([0, 1], 3)
        one.lay(2, [C])
        self.assert_same(told_of(other, 4), before)
        other.pour((0, 1), 3)
        other.lay(2, [C])
        self.assert_same(told_of(other, 4), told_of(one, 4))


class TestOwn(Refusals, unittest.TestCase):
    def test_what_is_told_is_new(self):
        house = filled(4)
        house.pour([0, 1, 2], 3)
        for drive in range(4):
            self.assert_own(house.runs, drive)
        self.assert_own(house.lying)
        self.assert_own(house.deeds)
        self.assert_own(house.moved_items)

    def test_the_run_that_is_told_is_the_askers(self):
        house = filled(4)
        row = house.pour([1, 2], 3)
        before = told_of(house, 4)
        row.reverse()
        row.append("spoiled")
        self.assert_same(told_of(house, 4), before)

    def test_what_is_handed_in(self):
        house = House(4)
        run, sources = [A, B], [1, 0]
        house.lay(0, run)
        house.lay(1, run)
        self.assert_same(run, [A, B])
        run.append("spoiled")
        self.assert_same(house.runs(0) + house.runs(1), [[A, B], [A, B]])
        house.pour(sources, 2)
        self.assert_same(sources, [1, 0])
        before = told_of(house, 4)
        run.clear()
        sources.append(3)
        sources[0] = "spoiled"
        self.assert_same(told_of(house, 4), before)
        self.assert_same(house.deeds()[-1], ("pour", (1, 0), 2, 4))

    def test_asked_again(self):
        house = filled(5)
        house.pour((3, 1, 0), 2)
        before = told_of(house, 5)
        self.assert_same(told_of(house, 5), before)
        again = filled(5)
        again.pour([3, 1, 0], 2)
        self.assert_same(told_of(again, 5), before)


class TestRefused(Refusals, unittest.TestCase):
    def no_drives_of(self, drives):
        return NO_NUMBERS + [-1, -drives, drives, drives + 1, 10, FORTY, -FORTY]

    def assert_unchanged(self, house, drives, kind, call, *handed, **fields):
        before = told_of(house, drives)
        self.assert_refused(kind, call, *handed, **fields)
        self.assert_same(told_of(house, drives), before)

    def test_no_drives(self):
        for thing in NO_DRIVES:
            with self.subTest(thing=thing):
                self.assert_refused(NoDrives, House, thing)

    def test_what_is_no_number_of_a_drive(self):
        for drives in range(3, 7):
            house = filled(drives)
            for thing in self.no_drives_of(drives):
                with self.subTest(drives=drives, thing=thing):
                    self.assert_unchanged(house, drives, NoDrive, house.runs, thing)
                    self.assert_unchanged(house, drives, NoDrive, house.lay, thing, [A])
                    self.assert_unchanged(house, drives, NoDrive, house.lay, thing, [])
                    self.assert_unchanged(house, drives, NoDrive, house.lay, thing, FALLING)
                    self.assert_unchanged(house, drives, NoDrive, house.pour, [0, 1], thing)
                    self.assert_unchanged(house, drives, NoDrive, house.pour, [0, thing], drives - 1)
                    self.assert_unchanged(house, drives, NoDrive, house.pour, (thing, 0), drives - 1)
                    self.assert_unchanged(house, drives, NoDrive, house.pour, [0, 1, thing], drives - 1)
                    self.assert_unchanged(house, drives, NoDrive, house.pour, [thing, thing], drives - 1)

    def test_sources_that_are_none(self):
        house = filled(4)
        for sources in [
            [], (), [0], (0,), [1], [0, 0], (0, 0), [0, 1, 0], (1, 1, 0), [0, 1, 2, 2], "01", "", "0", {0: 1, 1: 0}, {}, None,
            0, 1, True, False, FORTY, [[0, 1]], [(0, 1)], ((0, 1),), [[0], [1]], ([0, 1], 2), [True, False], (False, 1),
            [0, True], [0, None], [0, "1"], ["0", "1"], [0, {}], [0, []], {(0, 1): 0}, [0, 1, 2, 2, 1, 0],
        ]:
            with self.subTest(sources=sources):
                self.assert_unchanged(house, 4, NoDrive, house.pour, sources, 3)
                self.assert_unchanged(house, 4, NoDrive, house.pour, sources, 9)
                self.assert_unchanged(house, 4, NoDrive, house.pour, sources, None)

    def test_a_target_among_the_sources(self):
        for drives in range(3, 7):
            house = filled(drives)
            for many in range(2, drives + 1):
                for sources in itertools.combinations(range(drives), many):
                    for target in sources:
                        self.assert_unchanged(house, drives, NoDrive, house.pour, sources, target)
                        self.assert_unchanged(house, drives, NoDrive, house.pour, list(sources)[::-1], target)

    def test_a_row_that_does_not_rise(self):
        house = filled(3)
        for row in [FALLING, [A, B, A], [B, A], [(FORTY, ""), (-FORTY, "")], ROWS["falls at the end"]]:
            for drive in range(3):
                self.assert_unchanged(house, 3, NotRising, house.lay, drive, copy.copy(row), at=0)

    def test_a_drive_without_a_run(self):
        house = House(5)
        house.lay(1, [A])
        house.lay(3, [])
        told = [
            ([0, 1], 2, 0), ([1, 0], 2, 0), ((1, 3, 0), 2, 0), ([1, 3, 4, 0], 2, 4), ([4, 0], 2, 4), ([0, 4], 2, 0),
            ((1, 2), 0, 2), ([2, 1, 0], 4, 2), ([3, 0, 2, 4], 1, 0), ([3, 4, 2, 0], 1, 4), ((4, 2, 0, 3, ), 1, 4),
        ]
        for sources, target, bare in told:
            with self.subTest(sources=sources, target=target):
                self.assert_unchanged(house, 5, Bare, house.pour, sources, target, drive=bare)
        self.assert_same(house.pour([1, 3], 2), [A])
        self.assert_unchanged(house, 5, Bare, house.pour, [2, 1], 0, drive=1)

    def test_the_first_that_is_due(self):
        # In a house without runs each source is bare, but what is no drive is told ahead of it.
        house = House(4)
        for sources, target in (
            ([0, 1], 4), ([0, 1], 0), ([0, 4], 1), ([0], 1), ([0, 0], 1), ([0, 1], True), ("01", 2), ([0, 1, 1], 2),
            ([0, 1], None), ([0, -1], 2),
        ):
            self.assert_unchanged(house, 4, NoDrive, house.pour, sources, target)
        self.assert_unchanged(house, 4, Bare, house.pour, [1, 0], 2, drive=1)
        self.assert_unchanged(house, 4, NoDrive, house.lay, 4, FALLING)
        self.assert_unchanged(house, 4, NotRising, house.lay, 3, FALLING, at=0)

    def test_goes_on_behind_a_refusal(self):
        house, other = filled(4), filled(4)
        self.assert_refused(NoDrive, house.pour, [0, 1], 1)
        self.assert_refused(Bare, house.pour, [0, 3], 2, drive=3)
        self.assert_refused(NotRising, house.lay, 0, FALLING, at=0)
        self.assert_same(house.pour([0, 1, 2], 3), other.pour([0, 1, 2], 3))
        self.assert_same(told_of(house, 4), told_of(other, 4))


if __name__ == "__main__":
    unittest.main()
