"""Promises [4], [5], [7], [54], [55]: pourwright.goings."""

import copy
import functools
import itertools
import unittest

from pourwright.errors import NoWidth
from pourwright.goings import going, is_going, least_moved, least_plan
from pourwright.plans import is_plan, moved
from tests.helper import FORTY, NO_NUMBERS, NO_WIDTHS, Refusals, nested


def some_lengths():
    for many in list(range(1, 14)) + [20, 31, 32, 59, 60]:
        yield [place * 7 % 10 for place in range(many)]
        yield [1] * many
    yield [0] * 9
    yield list(range(60))
    yield list(range(60))[::-1]
    yield [5, 0, 0, 5, 1, 0, 5]
    yield [2 ** place for place in range(30)]
    yield [1, 1, 2, 3, 5, 8, 13, 21]
    yield [10 ** 30, 1, 10 ** 30, 0]


def is_going_by_hand(thing, lengths, width):
    """[54], word by word, of lists of tuples of whole numbers alone."""
    known = list(lengths)
    there = set(range(len(lengths)))
    for at, taken in enumerate(thing):
        if len(taken) != (width if at else 2 + (len(lengths) - 2) % (width - 1)):
            return False
        if len(set(taken)) != len(taken) or not set(taken) <= there:
            return False
        there -= set(taken)
        if any(known[stays] < known[one] for stays in there for one in taken):
            return False
        there.add(len(known))
        known.append(sum(known[one] for one in taken))
    return len(there) == 1


def plans_of(numbers, width):
    """Every plan for these numbers, the order within a tuple aside."""
    if len(numbers) == 1:
        yield numbers[0]
    for parts in partings(numbers):
        if 2 <= len(parts) <= width:
            for plan in itertools.product(*[list(plans_of(part, width)) for part in parts]):
                yield plan


def partings(numbers):
    if not numbers:
        yield []
        return
    for parts in partings(numbers[1:]):
        yield [numbers[:1]] + parts
        for place in range(len(parts)):
            yield parts[:place] + [numbers[:1] + parts[place]] + parts[place + 1:]


@functools.lru_cache(maxsize=None)
def least_by_hand(lengths, width):
    """What the best plan moves, over all ways to part the lengths; they come sorted."""
    if len(lengths) == 1:
        return 0
    ways = [
        sum(least_by_hand(tuple(sorted(part)), width) for part in parts)
        for parts in partings(list(lengths)) if 2 <= len(parts) <= width
    ]
    return sum(lengths) + min(ways)


class TestGoing(Refusals, unittest.TestCase):
    def test_told(self):
        told = [
            ([7], 2, []),
            ([7], 8, []),
            ([7, 3], 2, [(0, 1)]),
            ([7, 3], 8, [(0, 1)]),
            ([1, 2, 3], 2, [(0, 1), (2, 3)]),
            ([1, 2, 3], 3, [(0, 1, 2)]),
            ([9, 1, 5, 2], 3, [(1, 3), (0, 2, 4)]),
            ([9, 1, 5, 2], 4, [(0, 1, 2, 3)]),
            ([1, 2, 3, 4, 5], 3, [(0, 1, 2), (3, 4, 5)]),
            ([1, 2, 3, 4, 5, 6], 3, [(0, 1), (2, 3, 6), (4, 5, 7)]),
        ]
        for lengths, width, pours in told:
            with self.subTest(lengths=lengths, width=width):
                # The numbers within a pour may stand in any order; there is no other choice here.
                self.assertEqual([tuple(sorted(taken)) for taken in going(lengths, width)], pours)

    def test_each_is_a_least_going(self):
        for lengths in some_lengths():
            for width in range(2, 9):
                with self.subTest(lengths=lengths, width=width):
                    pours = going(lengths, width)
                    self.assertIs(pours.__class__, list)
                    self.assertTrue(all(taken.__class__ is tuple for taken in pours))
                    self.assertTrue(is_going_by_hand(pours, lengths, width))
                    self.assertIs(is_going(pours, lengths, width), True)

    def test_small_lengths(self):
        for many in range(1, 7):
            for lengths in itertools.product((0, 1, 2), repeat=many):
                for width in (2, 3, 4):
                    pours = going(list(lengths), width)
                    self.assertTrue(is_going_by_hand(pours, lengths, width))
                    self.assertIs(is_going(pours, list(lengths), width), True)

    def test_no_width(self):
        for thing in NO_WIDTHS:
            for lengths in ([1], [3, 2, 1]):
                with self.subTest(thing=thing):
                    self.assert_refused(NoWidth, going, lengths, thing)
                    self.assert_refused(NoWidth, least_moved, lengths, thing)
                    self.assert_refused(NoWidth, least_plan, lengths, thing)
                    for pours in ([], [(0, 1, 2)], None, "x", [None], True):
                        self.assert_refused(NoWidth, is_going, pours, lengths, thing)

    def test_own(self):
        for lengths in some_lengths():
            for width in (2, 3, 8):
                self.assert_own(going, list(lengths), width)
                self.assert_own(least_moved, list(lengths), width)
                self.assert_own(least_plan, list(lengths), width)


class TestIsGoing(Refusals, unittest.TestCase):
    def test_other_goings_of_the_same_kind(self):
        told = [
            ([(1, 0), (3, 2)], [1, 2, 3], 2),
            ([(2, 0, 1)], [1, 2, 3], 3),
            ([(0, 1), (2, 3)], [1, 1, 1], 2),
            ([(0, 2), (1, 3)], [1, 1, 1], 2),
            ([(1, 2), (0, 3)], [1, 1, 1], 2),
            ([(2, 1), (3, 0)], [1, 1, 1], 2),
            ([(0, 1), (2, 3), (4, 5)], [1, 1, 1, 1], 2),
            ([(2, 3), (0, 1), (4, 5)], [1, 1, 1, 1], 2),
            ([(0, 1), (2, 3), (4, 5)], [1, 1, 2, 2], 2),
            ([(0, 1), (3, 4), (2, 5)], [1, 1, 2, 2], 2),
            ([(0, 1), (2, 4), (3, 5)], [1, 1, 2, 2], 2),
            ([(0, 1), (2, 3, 4)], [0, 0, 0, 0], 3),
            ([(3, 0), (4, 1, 2)], [0, 0, 0, 0], 3),
            ([(0, 1), (2, 3)], [0, 0, 0], 2),
            ([], [5], 2),
        ]
        for pours, lengths, width in told:
            with self.subTest(pours=pours):
                self.assertTrue(is_going_by_hand(pours, lengths, width))
                self.assertIs(is_going(pours, lengths, width), True)

    def test_numbers_in_another_order(self):
        for lengths in some_lengths():
            for width in (2, 3, 5, 8):
                pours = [taken[::-1] for taken in going(lengths, width)]
                self.assertIs(is_going(pours, lengths, width), True)

    def test_what_is_none(self):
        lengths = [1, 2, 3, 9]
        self.assertIs(is_going([(0, 1), (2, 3, 4)], lengths, 3), True)
        for thing in [
            [(0, 1, 2), (3, 4)], [(0, 1, 2), (3, 4, 0)], [(0, 1, 2, 3)], [(0, 1)], [], [(0, 1), (2, 4), (3, 5)],
            [(0, 1), (2, 4)], [(0, 1), (2, 3, 4), (5,)], [(0, 1), (2, 3, 4), (4, 5)], [(0, 1), (2, 3, 4), ()],
            [(0, 1), (2, 3, 4), (5, 6, 7)], [(0, 1), (2, 3, 4), 5], [(0, 1), (2, 3, 4), None], [(0, 0), (2, 3, 4)],
            [(0, 1, 1), (2, 3, 4)], [(0, 1), (2, 3, 4, 4)],
            [(0, 1), (2, 2, 4)], [(0, 1), (2, 3, 3)], [(0, 1), (1, 2, 3)], [(0, 1), (0, 2, 3)], [(0, 1), (2, 3, 5)],
            [(0, 4), (1, 2, 3)], [(0, 2), (1, 3, 4)], [(1, 2), (0, 3, 4)], [(0, 3), (1, 2, 4)], [(2, 3), (0, 1, 4)],
            [(0, True), (2, 3, 4)], [(False, 1), (2, 3, 4)], [(0, 1), (2, 3, True)], [(False, True), (2, 3, 4)],
            ((0, 1), (2, 3, 4)), [[0, 1], (2, 3, 4)], [(0, 1), [2, 3, 4]], [[0, 1], [2, 3, 4]], ([0, 1], [2, 3, 4]),
            {0: (0, 1), 1: (2, 3, 4)}, {(0, 1): (2, 3, 4)}, [{0: 0, 1: 1}, (2, 3, 4)], [(0, -3), (2, 3, 4)],
            [(-4, -3), (-2, -1, 4)], [(0, "1"), (2, 3, 4)], [(0, None), (2, 3, 4)], [(0, [1]), (2, 3, 4)],
            [(0, (1,)), (2, 3, 4)], [((0, 1), 1), (2, 3, 4)], [(0, {}), (2, 3, 4)], ["01", (2, 3, 4)], [None, (2, 3, 4)],
            [0, 1, 2, 3, 4], [(0, FORTY), (2, 3, 4)], [(0, -FORTY), (2, 3, 4)], [((0, 1), (2, 3, 4))],
            [[(0, 1), (2, 3, 4)]], [(), (0, 1), (2, 3, 4)], [(0, 1), (), (2, 3, 4)], [(2, 3, 4), (0, 1)],
        ]:
            with self.subTest(thing=thing):
                self.assertIs(is_going(thing, lengths, 3), False)

    def test_a_later_pour_too_small_or_too_great(self):
        self.assertIs(is_going([(0, 1, 2), (3, 4, 5)], [1] * 5, 3), True)
        self.assertIs(is_going([(0, 1), (2, 3, 4), (5, 6)], [1] * 5, 3), False)
        self.assertIs(is_going([(0, 1), (2, 3), (4, 5, 6)], [1] * 5, 3), False)
        self.assertIs(is_going([(0, 1, 2), (3, 4), (5, 6)], [1] * 5, 3), False)
        self.assertIs(is_going([(0, 1), (2, 3, 4, 5)], [1] * 5, 4), True)
        self.assertIs(is_going([(0, 1, 2, 3), (4, 5)], [1] * 5, 4), False)

    def test_a_shorter_thing_left(self):
        lengths = [4, 1, 1, 1, 9]
        self.assertIs(is_going([(1, 2), (3, 5), (0, 6), (4, 7)], lengths, 2), True)
        self.assertIs(is_going([(1, 2), (5, 3), (0, 4), (6, 7)], lengths, 2), False)
        self.assertIs(is_going([(1, 2), (0, 3), (5, 6), (4, 7)], lengths, 2), False)
        self.assertIs(is_going([(0, 1), (2, 3), (5, 6), (4, 7)], lengths, 2), False)

    def test_all_goings_of_few_runs(self):
        for lengths in ([1, 1, 1], [1, 2, 3], [2, 1, 2], [0, 0, 1], [1, 1, 2, 2], [3, 1, 1, 2]):
            for width in (2, 3):
                sizes = [2 + (len(lengths) - 2) % (width - 1)]
                while len(lengths) - sum(sizes) + len(sizes) > 1:
                    sizes.append(width)
                numbers = range(len(lengths) + len(sizes))
                pours = [list(itertools.permutations(numbers, size)) for size in sizes]
                for thing in itertools.product(*pours):
                    wanted = is_going_by_hand(thing, lengths, width)
                    self.assertIs(is_going(list(thing), lengths, width), wanted, (thing, lengths, width))

    def test_of_one_length(self):
        for width in range(2, 9):
            self.assertIs(is_going([], [4], width), True)
            for thing in ([(0,)], [()], [(0, 0)], [(0, 1)], [None], (), {}, "", None, 0, [[]]):
                self.assertIs(is_going(thing, [4], width), False)

    def test_things_of_other_kinds(self):
        for lengths in ([3, 2], [1, 2, 3, 9]):
            for thing in NO_NUMBERS + [0, 1, -1, FORTY, [[0, 1]], nested("tuple", 9)]:
                self.assertIs(is_going(thing, lengths, 2), False)
                self.assertIs(is_going([thing], lengths, 2), False)
                self.assertIs(is_going([(0, thing)], lengths, 2), thing == 1 and thing is not True and len(lengths) == 2)

    def test_own(self):
        for thing in ([(0, 1), (2, 3, 4)], [[0, 1]], {0: [1]}, None, [(0, [1])]):
            self.assert_own(is_going, copy.deepcopy(thing), [1, 2, 3, 9], 3)


class TestLeast(Refusals, unittest.TestCase):
    def test_told(self):
        told = [
            ([7], 2, 0), ([7], 8, 0), ([0], 2, 0), ([7, 3], 2, 10), ([1, 2, 3], 2, 3 + 6), ([1, 2, 3], 3, 6),
            ([1, 1, 1, 1], 2, 8), ([9, 1, 5, 2], 3, 3 + 17), ([9, 1, 5, 2], 2, 3 + 8 + 17), ([0, 0, 0], 2, 0),
            ([1, 2, 3, 4, 5, 6], 3, 3 + 10 + 21), ([1] * 60, 8, 4 + 7 * 8 + 60),
        ]
        for lengths, width, least in told:
            with self.subTest(lengths=lengths, width=width):
                self.assert_same(least_moved(lengths, width), least)

    def test_what_the_pours_take(self):
        for lengths in some_lengths():
            for width in range(2, 9):
                known = list(lengths)
                for taken in going(lengths, width):
                    known.append(sum(known[number] for number in taken))
                self.assert_same(least_moved(lengths, width), sum(known[len(lengths):]))

    def test_the_plan_moves_just_that(self):
        for lengths in some_lengths():
            for width in range(2, 9):
                with self.subTest(lengths=lengths, width=width):
                    plan = least_plan(lengths, width)
                    self.assertIs(is_plan(plan, len(lengths), width), True)
                    self.assert_same(moved(plan, lengths), least_moved(lengths, width))

    def test_one_run(self):
        for width in range(2, 9):
            self.assert_same(least_plan([5], width), 0)
            self.assert_same(least_moved([5], width), 0)

    def test_no_plan_of_few_runs_moves_less(self):
        for many in range(1, 6):
            for width in (2, 3, 4, 8):
                plans = list(plans_of(list(range(many)), width))
                self.assertTrue(all(is_plan(plan, many, width) for plan in plans))
                for lengths in itertools.combinations_with_replacement((0, 1, 2, 5), many):
                    least = min(moved(plan, lengths) for plan in plans)
                    self.assertEqual(least_moved(list(lengths), width), least, (lengths, width))

    def test_no_parting_of_more_runs_moves_less(self):
        for lengths in [
            (1, 1, 1, 1, 1, 1, 1), (1, 1, 2, 3, 5, 8, 13), (0, 0, 1, 4, 4, 4), (3, 3, 3, 4, 5, 6), (1, 2, 4, 8, 16, 32, 64),
            (5, 5, 5, 5, 5, 6, 6), (0, 1, 1, 1, 9, 9, 9),
        ]:
            for width in (2, 3, 4, 5, 6, 7, 8):
                least = least_by_hand(lengths, width)
                self.assertEqual(least_moved(list(lengths), width), least, (lengths, width))
                self.assertEqual(least_moved(list(lengths[::-1]), width), least, (lengths, width))

    def test_a_greater_width_never_moves_more(self):
        for lengths in some_lengths():
            many = [least_moved(lengths, width) for width in range(2, 9)]
            self.assertEqual(many, sorted(many, reverse=True))


if __name__ == "__main__":
    unittest.main()
