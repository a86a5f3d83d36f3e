"""Promises [4], [5], [7], [56], [57]: pourwright.tables."""

import copy
import functools
import itertools
import unittest

from pourwright.errors import NoWidth
from pourwright.goings import least_moved
from pourwright.plans import done, is_plan, moved, order, passes
from pourwright.tables import fewest_passes, is_table, level_plan, neighbour_plan, table
from tests.helper import FORTY, NO_NUMBERS, NO_WIDTHS, Refusals, nested

MILLION = 10 ** 6


def some_lengths():
    for many in range(1, 8):
        yield [1] * many
        yield [0] * many
        yield [place * 7 % 10 for place in range(many)]
        yield list(range(many, 0, -1))
        yield [MILLION if place % 3 == 1 else place for place in range(many)]
        yield [0 if place % 2 else MILLION for place in range(many)]
    yield [1, 1, 1, 9, 1, 1, 1]
    yield [9, 9, 0, 0, 0, 9, 9]
    yield [1, 2, 4, 8, 16, 32, 64]
    yield [64, 32, 16, 8, 4, 2, 1]


TWELVE = [
    [1] * 12, [0] * 12, list(range(12)), [5, 0, MILLION, 3, 3, 0, 0, 1, MILLION, 2, 7, 7],
    [9, 1, 8, 2, 7, 3, 6, 4, 5, 5, 4, 6],
]


def cuttings(first, behind):
    """Every way to part a stretch into one or more stretches."""
    for many in range(behind - first):
        for cuts in itertools.combinations(range(first + 1, behind), many):
            ends = (first,) + cuts + (behind,)
            yield list(zip(ends, ends[1:]))


def table_by_hand(lengths, width):
    @functools.lru_cache(maxsize=None)
    def least(first, behind):
        if behind - first == 1:
            return 0
        ways = [sum(least(*part) for part in parts) for parts in cuttings(first, behind) if 2 <= len(parts) <= width]
        return sum(lengths[first:behind]) + min(ways)

    many = len(lengths)
    return {(first, behind): least(first, behind) for first in range(many) for behind in range(first + 1, many + 1)}


def neighbour_plans(first, behind, width):
    """Every plan of neighbours of a stretch."""
    if behind - first == 1:
        yield first
    for parts in cuttings(first, behind):
        if 2 <= len(parts) <= width:
            yield from itertools.product(*[list(neighbour_plans(*part, width)) for part in parts])


class TestTable(Refusals, unittest.TestCase):
    def test_told(self):
        told = [
            ([7], 2, {(0, 1): 0}),
            ([7], 8, {(0, 1): 0}),
            ([7, 3], 2, {(0, 1): 0, (1, 2): 0, (0, 2): 10}),
            ([1, 2, 3], 2, {(0, 1): 0, (1, 2): 0, (2, 3): 0, (0, 2): 3, (1, 3): 5, (0, 3): 9}),
            ([1, 2, 3], 3, {(0, 1): 0, (1, 2): 0, (2, 3): 0, (0, 2): 3, (1, 3): 5, (0, 3): 6}),
            ([9, 1, 1], 2, {(0, 1): 0, (1, 2): 0, (2, 3): 0, (0, 2): 10, (1, 3): 2, (0, 3): 13}),
        ]
        for lengths, width, wanted in told:
            with self.subTest(lengths=lengths, width=width):
                self.assertEqual(table(lengths, width), wanted)

    def assert_table(self, lengths, width):
        told = table(lengths, width)
        self.assertIs(told.__class__, dict)
        self.assert_same(sorted(told.items()), sorted(table_by_hand(tuple(lengths), width).items()))

    def test_each_stretch(self):
        for lengths in some_lengths():
            for width in range(2, 9):
                with self.subTest(lengths=lengths, width=width):
                    self.assert_table(lengths, width)

    def test_of_twelve(self):
        for lengths in TWELVE:
            for width in (2, 3, 8):
                with self.subTest(lengths=lengths, width=width):
                    self.assert_table(lengths, width)

    def test_small_lengths(self):
        for many in range(1, 6):
            for lengths in itertools.product((0, 1, 3), repeat=many):
                for width in (2, 3, 4):
                    self.assert_table(list(lengths), width)

    def test_no_plan_of_neighbours_moves_less(self):
        for width in (2, 3, 8):
            for many in range(1, 7):
                plans = list(neighbour_plans(0, many, width))
                for lengths in ([1] * many, [place * 7 % 10 for place in range(many)], [3, 0, 0, 9, 1, 2][:many]):
                    least = min(moved(plan, lengths) for plan in plans)
                    self.assertEqual(table(lengths, width)[(0, many)], least)

    def test_never_less_than_the_least_of_all_plans(self):
        for lengths in list(some_lengths()) + TWELVE:
            for width in (2, 3, 8):
                self.assertGreaterEqual(table(lengths, width)[(0, len(lengths))], least_moved(lengths, width))

    def test_own(self):
        for lengths in list(some_lengths()) + TWELVE[-2:]:
            for width in (2, 3, 8):
                self.assert_own(table, list(lengths), width)


class TestIsTable(Refusals, unittest.TestCase):
    LENGTHS = [1, 2, 0, 4]

    def none(self, thing, lengths=None, width=2):
        self.assertIs(is_table(thing, self.LENGTHS if lengths is None else lengths, width), False, thing)

    def test_of_the_table(self):
        for lengths in list(some_lengths()) + TWELVE:
            for width in (2, 3, 5, 8):
                right = table(lengths, width)
                for keys in (sorted(right), sorted(right)[::-1], sorted(right, key=lambda key: (key[1], -key[0]))):
                    self.assertIs(is_table({key: right[key] for key in keys}, lengths, width), True)

    def test_a_stretch_left_out_or_put_in(self):
        right = table(self.LENGTHS, 2)
        for stretch in right:
            thing = dict(right)
            del thing[stretch]
            self.none(thing)
            self.none(dict(thing, more=right[stretch]))
            self.none({**thing, (stretch[1], stretch[0]): right[stretch]})
        for stretch in ((0, 0), (1, 1), (0, 5), (4, 5), (-1, 0), (-1, 4), (1, 0), (4, 0), (FORTY, 0), (0, -FORTY)):
            self.none({**right, stretch: 0})
            self.none({**right, stretch: 7})

    def test_another_number(self):
        right = table(self.LENGTHS, 2)
        for stretch, number in right.items():
            for other in (number + 1, number - 1, -number - 1, FORTY, -FORTY):
                self.none({**right, stretch: other})
            for other in NO_NUMBERS + [str(number), [number], (number,), {number: number}]:
                self.none({**right, stretch: other})

    def test_true_and_false_are_no_numbers(self):
        right = table([1, 0, 0], 2)
        self.assertEqual((right[(0, 1)], right[(0, 2)]), (0, 1))
        self.none({**right, (0, 1): False}, [1, 0, 0])
        self.none({**right, (0, 2): True}, [1, 0, 0])
        self.none({key: bool(right[key]) for key in right}, [1, 0, 0])
        self.none({(0, 1): False}, [5])
        self.none({(0, True): 0}, [5])
        self.none({(False, 1): 0}, [5])
        self.none({(False, True): 0}, [5])
        self.assertIs(is_table({(0, 1): 0}, [5], 2), True)

    def test_keys_of_other_kinds(self):
        right = table(self.LENGTHS, 2)
        for stretch in right:
            first, behind = stretch
            for key in [
                str(stretch), f"{first},{behind}", "", first, behind, FORTY, -1, None, True, False, (), (first,),
                (behind,), (first, behind, 0), (first, behind, behind), (behind, first), (first, -behind), (stretch,),
                (stretch, stretch), (first, str(behind)), (str(first), behind), (first, None), (None, behind),
                (first, (behind,)), ((first,), behind), nested("tuple", 9),
            ]:
                if key not in right:
                    thing = {one: right[one] for one in right if one != stretch}
                    self.none({**thing, key: right[stretch]})

    def test_true_within_a_key(self):
        right = table(self.LENGTHS, 2)
        for first, behind in right:
            thing = {key: right[key] for key in right if key != (first, behind)}
            if first < 2:
                self.none({**thing, (bool(first), behind): right[(first, behind)]})
            if behind == 1:
                self.none({**thing, (first, True): right[(first, behind)]})

    def test_of_other_lengths_or_another_width(self):
        right = table(self.LENGTHS, 2)
        for lengths in ([1, 2, 0, 5], [2, 1, 0, 4], [1, 2, 0], [1, 2, 0, 4, 0], [1, 2, 0, 4, 9], [1]):
            self.none(right, lengths)
        self.none(right, width=3)
        self.assertIs(is_table(table([1, 2], 2), [1, 2], 3), True)

    def test_things_of_other_kinds(self):
        for lengths in ([1], self.LENGTHS):
            right = table(lengths, 2)
            for thing in NO_NUMBERS + [
                0, 1, FORTY, {}, list(right), list(right.items()), tuple(right.items()), [right], (right,), {0: right},
                {(0, 1): right}, str(right), sorted(right.values()), {"(0, 1)": 0}, {(0, 1): None}, {(0, 1): []},
                {key: [right[key]] for key in right}, {right[key]: key for key in right},
            ]:
                with self.subTest(thing=thing):
                    self.none(thing, lengths)

    def test_own(self):
        for thing in (table(self.LENGTHS, 2), {(0, 1): [0]}, [[1]], None, {}):
            self.assert_own(is_table, copy.deepcopy(thing), list(self.LENGTHS), 2)


class TestNeighbourPlan(Refusals, unittest.TestCase):
    def test_told(self):
        told = [
            ([7], 2, 0), ([7, 3], 2, (0, 1)), ([7, 3], 8, (0, 1)), ([1, 1, 9], 2, ((0, 1), 2)),
            ([9, 1, 1], 2, (0, (1, 2))), ([1, 2, 3], 3, (0, 1, 2)), ([1, 1, 9, 1, 1], 3, ((0, 1), 2, (3, 4))),
            ([1, 1, 1, 1], 2, ((0, 1), (2, 3))),
        ]
        for lengths, width, plan in told:
            with self.subTest(lengths=lengths, width=width):
                self.assert_same(neighbour_plan(lengths, width), plan)

    def test_moves_just_what_the_table_has(self):
        for lengths in list(some_lengths()) + TWELVE:
            for width in range(2, 9):
                with self.subTest(lengths=lengths, width=width):
                    plan = neighbour_plan(lengths, width)
                    many = len(lengths)
                    self.assertIs(is_plan(plan, many, width), True)
                    self.assertEqual(order(plan), list(range(many)))
                    self.assertEqual(moved(plan, lengths), table_by_hand(tuple(lengths), width)[(0, many)])

    def test_done(self):
        runs = [[(3, ""), (5, "")], [(1, "")], [(2, "a"), (2, "b")], [], [(0, ""), (9, "")], [(4, "")]]
        lengths = [len(run) for run in runs]
        for width in range(2, 9):
            self.assertEqual(done(neighbour_plan(lengths, width), runs), sorted(sum(runs, [])))

    def test_own(self):
        for lengths in some_lengths():
            for width in (2, 3, 8):
                self.assert_own(neighbour_plan, list(lengths), width)


class TestPasses(Refusals, unittest.TestCase):
    def test_told(self):
        told = [
            (1, 2, 0), (2, 2, 1), (3, 2, 2), (4, 2, 2), (5, 2, 3), (8, 2, 3), (9, 2, 4), (16, 2, 4), (17, 2, 5),
            (32, 2, 5), (33, 2, 6), (60, 2, 6), (1, 3, 0), (2, 3, 1), (3, 3, 1), (4, 3, 2), (9, 3, 2), (10, 3, 3),
            (27, 3, 3), (28, 3, 4), (60, 3, 4), (16, 4, 2), (17, 4, 3), (25, 5, 2), (26, 5, 3), (36, 6, 2), (37, 6, 3),
            (49, 7, 2), (50, 7, 3), (1, 8, 0), (2, 8, 1), (8, 8, 1), (9, 8, 2), (60, 8, 2),
        ]
        for many, width, fewest in told:
            with self.subTest(many=many, width=width):
                self.assert_same(fewest_passes(many, width), fewest)

    def test_by_the_rule(self):
        for many in range(1, 61):
            for width in range(2, 9):
                fewest = fewest_passes(many, width)
                self.assertGreaterEqual(width ** fewest, many)
                self.assertTrue(fewest == 0 or width ** (fewest - 1) < many)

    def test_the_plan(self):
        for many in range(1, 61):
            for width in range(2, 9):
                with self.subTest(many=many, width=width):
                    plan = level_plan(many, width)
                    self.assertIs(is_plan(plan, many, width), True)
                    self.assertEqual(order(plan), list(range(many)))
                    self.assert_same(passes(plan), fewest_passes(many, width))

    def test_no_plan_has_fewer(self):
        for width in (2, 3, 4):
            for many in range(1, 8):
                fewest = min(passes(plan) for plan in neighbour_plans(0, many, width))
                self.assertEqual(fewest_passes(many, width), fewest)

    def test_own(self):
        for many in (1, 2, 9, 60):
            for width in (2, 3, 8):
                self.assert_own(level_plan, many, width)
                self.assert_own(fewest_passes, many, width)


class TestNoWidth(Refusals, unittest.TestCase):
    def test_ahead_of_all_else(self):
        for thing in NO_WIDTHS:
            with self.subTest(thing=thing):
                for lengths in ([1], [3, 2, 1]):
                    self.assert_refused(NoWidth, table, lengths, thing)
                    self.assert_refused(NoWidth, neighbour_plan, lengths, thing)
                    for paper in ({}, None, table(lengths, 2), "x", [{}], True):
                        self.assert_refused(NoWidth, is_table, paper, lengths, thing)
                for many in (1, 2, 60):
                    self.assert_refused(NoWidth, fewest_passes, many, thing)
                    self.assert_refused(NoWidth, level_plan, many, thing)


if __name__ == "__main__":
    unittest.main()
