"""Promises [4], [5], [7], [71], [72], [73], [74], [75]: pourwright.layouts."""

import itertools
import unittest

from pourwright.errors import NoDrives, NoPhase
from pourwright.layouts import led, level, level_for, phases_from, spread
from tests.helper import FORTY, NO_DRIVES, NO_NUMBERS, Refusals, layouts_of, nested, phases_by_hand


def level_by_hand(drives, number):
    if number == 0:
        return (1,) + (0,) * (drives - 1)
    ahead = level_by_hand(drives, number - 1)
    return tuple(ahead[0] + ahead[drive + 1] for drive in range(drives - 1)) + (0,)


class TestLed(Refusals, unittest.TestCase):
    def test_told(self):
        told = [
            ((1, 1, 0), (2, (0, 1), 1), (0, 0, 1)),
            ((5, 3, 0), (2, (0, 1), 1), (4, 2, 1)),
            ((5, 3, 0), (2, (0, 1), 3), (2, 0, 3)),
            ((0, 3, 4), (0, (1, 2), 2), (2, 1, 2)),
            ((3, 0, 4), (1, (0, 2), 3), (0, 3, 1)),
            ((4, 3, 2, 0), (3, (0, 1, 2), 2), (2, 1, 0, 2)),
            ((4, 3, 2, 0), (3, (0, 2), 1), (3, 3, 1, 1)),
            ((0, 3, 2, 0), (0, (1, 2), 2), (2, 1, 0, 0)),
            ((0, 3, 2, 0), (3, (1, 2), 1), (0, 2, 1, 1)),
            ((2, 2, 2, 2, 0), (4, (0, 1, 2, 3), 2), (0, 0, 0, 0, 2)),
            ((2, 2, 2, 2, 2, 0), (5, (1, 4), 2), (2, 0, 2, 2, 0, 2)),
            ((FORTY, 0, FORTY), (1, (0, 2), FORTY), (0, FORTY, 0)),
        ]
        for layout, phase, wanted in told:
            with self.subTest(layout=layout, phase=phase):
                self.assert_same(led(layout, phase), wanted)

    def test_all_phases_of_small_layouts(self):
        for drives, most in ((3, 7), (4, 5), (5, 4)):
            for layout in layouts_of(drives, most):
                for phase, wanted in phases_by_hand(layout):
                    self.assert_same(led(layout, phase), wanted)

    def test_all_else_is_none(self):
        for drives, most in ((3, 4), (4, 3)):
            for layout in layouts_of(drives, most):
                right = dict(phases_by_hand(layout))
                numbers = range(-1, drives + 1)
                for many in range(4):
                    for sources in itertools.product(numbers, repeat=many):
                        for target in numbers if many < 3 else (0, drives - 1):
                            for times in range(-1, most + 2):
                                phase = (target, sources, times)
                                if phase not in right:
                                    with self.assertRaises(NoPhase):
                                        led(layout, phase)

    def test_what_is_no_phase(self):
        layout = (4, 3, 2, 0)
        self.assertEqual(led(layout, (3, (0, 1), 1)), (3, 2, 2, 1))
        for phase in [
            (0, (1, 2), 1), (2, (0, 1), 1), (1, (0, 2), 1), (3, (0, 3), 1), (3, (2, 3), 1), (3, (0, 1, 2, 3), 1), (3, (0,), 1),
            (3, (), 1), (3, (1, 0), 1), (3, (0, 2, 1), 1), (3, (0, 0), 1), (3, (0, 1, 1), 1), (3, (-1, 0), 1),
            (3, (-4, -3), 1), (3, (0, 4), 1), (3, (0, FORTY), 1), (4, (0, 1), 1), (-1, (0, 1), 1), (FORTY, (0, 1), 1),
            (3, (0, 1), 0), (3, (0, 1), -1), (3, (0, 1), 4), (3, (0, 1, 2), 3), (3, (0, 1), FORTY), (3, (0, 1), -FORTY),
            (3, (False, 1), 1), (3, (0, True), 1), (3, (0, 1), True), (True, (0, 2), 1), (3, (0, 1), False),
            [3, (0, 1), 1], (3, [0, 1], 1), (3, (0, 1)), (3, (0, 1), 1, 1), (3, (0, 1), 1, None), ((0, 1), 1), (3,), (),
            (3, (0, "1"), 1), (3, (0, None), 1), (3, (0, [1]), 1), (3, ((0,), (1,)), 1), (3, ((0, 1),), 1), (3, (0, {}), 1),
            (3, (0, 1), "1"), (3, (0, 1), None), (3, (0, 1), [1]), (3, (0, 1), (1,)), (3, (0, 1), {}), ("3", (0, 1), 1),
            (None, (0, 1), 1), ([3], (0, 1), 1), ((3,), (0, 1), 1), ({}, (0, 1), 1), (3, "01", 1), (3, {0: 0, 1: 1}, 1),
            (3, None, 1), (3, 1, 1), (3, True, 1), {3: (0, 1)}, {0: 3, 1: (0, 1), 2: 1}, ((3, (0, 1), 1),), [(3, (0, 1), 1)],
            (3, nested("tuple", 9), 1), (nested("list", 9), (0, 1), 1), (3, (0, 1), nested("dict", 9)), "abc", "3 01 1",
        ] + NO_NUMBERS + [0, 1, 3, -1, FORTY]:
            with self.subTest(phase=phase):
                self.assert_refused(NoPhase, led, layout, phase)

    def test_true_and_false_are_no_drives(self):
        self.assertEqual(led((0, 1, 1), (0, (1, 2), 1)), (1, 0, 0))
        self.assert_refused(NoPhase, led, (0, 1, 1), (False, (1, 2), 1))
        self.assert_refused(NoPhase, led, (0, 1, 1), (0, (True, 2), 1))
        self.assert_refused(NoPhase, led, (0, 1, 1), (0, (1, 2), True))
        self.assert_refused(NoPhase, led, (1, 0, 1), (True, (0, 2), 1))

    def test_no_phase_of_a_layout_that_has_none(self):
        for layout in ((1, 1, 1), (0, 0, 0), (1, 0, 0), (0, 0, 9), (2, 3, 4, 5), (0, 5, 0, 0, 0, 0)):
            for target in range(len(layout)):
                for sources in itertools.combinations(range(len(layout)), 2):
                    self.assert_refused(NoPhase, led, layout, (target, sources, 1))

    def test_own(self):
        self.assert_own(led, (4, 3, 2, 0), (3, (0, 1, 2), 2))


class TestLevels(Refusals, unittest.TestCase):
    def test_told(self):
        told = [
            (3, 0, (1, 0, 0)), (3, 1, (1, 1, 0)), (3, 2, (2, 1, 0)), (3, 3, (3, 2, 0)), (3, 4, (5, 3, 0)), (3, 5, (8, 5, 0)),
            (4, 0, (1, 0, 0, 0)), (4, 1, (1, 1, 1, 0)), (4, 2, (2, 2, 1, 0)), (4, 3, (4, 3, 2, 0)), (4, 4, (7, 6, 4, 0)),
            (5, 1, (1, 1, 1, 1, 0)), (5, 2, (2, 2, 2, 1, 0)), (5, 3, (4, 4, 3, 2, 0)), (6, 1, (1, 1, 1, 1, 1, 0)),
            (6, 2, (2, 2, 2, 2, 1, 0)), (6, 3, (4, 4, 4, 3, 2, 0)), (6, 4, (8, 8, 7, 6, 4, 0)),
        ]
        for drives, number, layout in told:
            with self.subTest(drives=drives, number=number):
                self.assert_same(level(drives, number), layout)

    def test_by_the_rule(self):
        for drives in range(3, 7):
            for number in range(61):
                told = level(drives, number)
                self.assert_same(told, level_by_hand(drives, number))
                self.assertEqual(list(told), sorted(told, reverse=True))
                self.assertEqual(len(told), drives)

    def test_the_level_for_so_many(self):
        told = [
            (3, 0, 0), (3, 1, 0), (3, 2, 1), (3, 3, 2), (3, 4, 3), (3, 5, 3), (3, 6, 4), (3, 8, 4), (3, 9, 5),
            (4, 0, 0), (4, 1, 0), (4, 2, 1), (4, 3, 1), (4, 4, 2), (4, 5, 2), (4, 6, 3), (4, 9, 3), (4, 10, 4),
            (6, 0, 0), (6, 1, 0), (6, 2, 1), (6, 5, 1), (6, 6, 2), (6, 9, 2), (6, 10, 3),
        ]
        for drives, many, number in told:
            with self.subTest(drives=drives, many=many):
                self.assert_same(level_for(drives, many), number)

    def test_the_least_one_that_is_no_less(self):
        for drives in range(3, 7):
            totals = [sum(level_by_hand(drives, number)) for number in range(61)]
            asked = set(range(31)) | {10 ** 9, 10 ** 9 - 1}
            asked |= {total + more for total in totals for more in (-1, 0, 1) if total + more <= 10 ** 9}
            for many in asked:
                wanted = min(number for number, total in enumerate(totals) if total >= many)
                self.assert_same(level_for(drives, many), wanted)

    def test_no_drives(self):
        for thing in NO_DRIVES:
            with self.subTest(thing=thing):
                for number in (0, 1, 60):
                    self.assert_refused(NoDrives, level, thing, number)
                    self.assert_refused(NoDrives, level_for, thing, number)
                    self.assert_refused(NoDrives, spread, thing, number)

    def test_own(self):
        for drives in range(3, 7):
            for number in (0, 1, 7):
                self.assert_own(level, drives, number)
                self.assert_own(level_for, drives, number)


class TestPhasesFrom(Refusals, unittest.TestCase):
    def test_told(self):
        told = [
            ((1, 0, 0), []),
            ((1, 1, 0), [(2, (0, 1), 1)]),
            ((2, 1, 0), [(2, (0, 1), 1), (1, (0, 2), 1)]),
            ((3, 2, 0), [(2, (0, 1), 2), (1, (0, 2), 1), (0, (1, 2), 1)]),
            ((1, 0, 0, 0), []),
            ((1, 1, 1, 0), [(3, (0, 1, 2), 1)]),
            ((4, 3, 2, 0), [(3, (0, 1, 2), 2), (2, (0, 1, 3), 1), (1, (0, 2, 3), 1)]),
            ((1, 1, 1, 1, 1, 0), [(5, (0, 1, 2, 3, 4), 1)]),
        ]
        for layout, phases in told:
            with self.subTest(layout=layout):
                self.assert_same(phases_from(layout), phases)

    def test_from_each_level(self):
        for drives in range(3, 7):
            for number in range(61):
                now = level_by_hand(drives, number)
                phases = phases_from(now)
                self.assertEqual(len(phases), number)
                for phase in phases:
                    bare = [drive for drive in range(drives) if now[drive] == 0]
                    others = [drive for drive in range(drives) if now[drive] != 0]
                    self.assert_same(phase, (bare[0], tuple(others), min(now[drive] for drive in others)))
                    self.assertEqual(len(bare), 1)
                    now = led(now, phase)
                self.assertEqual(sum(now), 1)

    def leads_in(self, layout, many):
        """Whether some row of so many phases leads to a single run."""
        now = {layout}
        for _ in range(many):
            now = {told for one in now for phase, told in phases_by_hand(one)}
        return any(sum(one) == 1 for one in now)

    def test_no_layout_with_more_runs_comes_to_one_as_fast(self):
        for drives, most in ((3, 6), (4, 4), (5, 2)):
            for number in range(most + 1):
                total = sum(level_by_hand(drives, number))
                self.assertTrue(self.leads_in(level_by_hand(drives, number), number))
                more = total + 1
                for layout in layouts_of(drives, more, more) if more < 15 else []:
                    self.assertFalse(self.leads_in(layout, number), (layout, number))

    def test_from_the_levels_no_fewer_phases_lead_there(self):
        for drives in (3, 4):
            for number in range(1, 5):
                for fewer in range(number):
                    self.assertFalse(self.leads_in(level_by_hand(drives, number), fewer))

    def test_own(self):
        for drives in range(3, 7):
            for number in (0, 1, 5):
                self.assert_own(phases_from, level_by_hand(drives, number))


class TestSpread(Refusals, unittest.TestCase):
    def test_told(self):
        told = [
            (3, 0, ((0, 0, 0), (1, 0, 0))),
            (3, 1, ((1, 0, 0), (0, 0, 0))),
            (3, 2, ((1, 1, 0), (0, 0, 0))),
            (3, 3, ((2, 1, 0), (0, 0, 0))),
            (3, 4, ((3, 1, 0), (0, 1, 0))),
            (4, 2, ((1, 1, 0, 0), (0, 0, 1, 0))),
            (4, 4, ((2, 2, 0, 0), (0, 0, 1, 0))),
            (4, 6, ((3, 2, 1, 0), (1, 1, 1, 0))),
            (4, 7, ((4, 2, 1, 0), (0, 1, 1, 0))),
            (4, 8, ((4, 3, 1, 0), (0, 0, 1, 0))),
            (6, 0, ((0, 0, 0, 0, 0, 0), (1, 0, 0, 0, 0, 0))),
            (6, 3, ((1, 1, 1, 0, 0, 0), (0, 0, 0, 1, 1, 0))),
        ]
        for drives, many, wanted in told:
            with self.subTest(drives=drives, many=many):
                self.assert_same(spread(drives, many), wanted)

    def spread_by_hand(self, drives, many):
        number = 0
        while sum(level_by_hand(drives, number)) < many:
            number += 1
        lacks = list(level_by_hand(drives, number))
        came = [0] * drives
        for _ in range(many):
            drive = min(range(drives), key=lambda one: (-lacks[one], one))
            lacks[drive] -= 1
            came[drive] += 1
        return (tuple(came), tuple(lacks))

    def test_run_by_run(self):
        for drives in range(3, 7):
            for many in list(range(61)) + [100, 199, 200, 999, 1000]:
                with self.subTest(drives=drives, many=many):
                    told = spread(drives, many)
                    self.assert_same(told, self.spread_by_hand(drives, many))
                    self.assertEqual(sum(told[0]), many)
                    self.assertTrue(all(lack >= 0 for lack in told[1]))
                    both = tuple(one + other for one, other in zip(*told))
                    self.assertEqual(both, level(drives, level_for(drives, many)))

    def test_own(self):
        for drives in range(3, 7):
            for many in (0, 1, 9, 40):
                self.assert_own(spread, drives, many)


if __name__ == "__main__":
    unittest.main()
