"""Promises [3], [4], [5], [51], [52], [53]: pourwright.plans."""

import copy
import unittest

from pourwright.errors import NotRising, NoWidth
from pourwright.plans import done, is_plan, moved, order, passes
from tests.helper import FORTY, NO_NUMBERS, NO_WIDTHS, Refusals, nested

A, B, C, D = (1, ""), (1, "b"), (2, ""), (3, "")


def chain(many, left=True):
    """The deepest plan: two things a pour, one of them a run."""
    plan = 0
    for number in range(1, many):
        plan = (plan, number) if left else (number, plan)
    return plan


def even(numbers, width):
    """A plan as wide as may be, of no more passes than needed."""
    if len(numbers) == 1:
        return numbers[0]
    size = -(-len(numbers) // width)
    parts = [numbers[start:start + size] for start in range(0, len(numbers), size)]
    return tuple(even(part, width) for part in parts)


def widest(thing):
    return max([len(thing)] + [widest(part) for part in thing]) if isinstance(thing, tuple) else 0


def doubled(depth, thing=0):
    # The same part twice in each tuple: few things in memory, but very many to walk.
    for _ in range(depth):
        thing = (thing, thing)
    return thing


# Each with how many runs it is for, and the least width.
PLANS = [
    (0, 1, 2),
    ((0, 1), 2, 2),
    ((1, 0), 2, 2),
    ((0, 1, 2), 3, 3),
    ((2, (0, 1)), 3, 2),
    (((1, 2), 0), 3, 2),
    ((0, 1, 2, 3, 4, 5, 6, 7), 8, 8),
    (((0, 3), (2, 1)), 4, 2),
    (((0, 3, 4), 5, (2, 1)), 6, 3),
    ((3, (2, (1, (0, 4)))), 5, 2),
    ((((5, 0), 1, 2), ((3, 4), 6)), 7, 3),
    (chain(60), 60, 2),
    (chain(60, left=False), 60, 2),
    (even(list(range(60)), 2), 60, 2),
    (even(list(range(60)), 3), 60, 3),
    (even(list(range(60))[::-1], 8), 60, 8),
]

NO_PLANS = [
    # (thing, many, width)
    (1, 1, 2), (-1, 1, 2), (0, 2, 2), (1, 2, 2), (FORTY, 1, 2), (-FORTY, 1, 2), (60, 60, 8),
    ((0,), 1, 2), ((), 1, 2), ((0, 0), 1, 2), ((0, 0), 2, 2), ((0, 1), 1, 2), ((0, 1), 3, 2), ((0, 2), 2, 2),
    ((0, 2), 3, 2), ((0, -1), 2, 2), ((1, 2), 2, 2), ((0, 1, 1), 2, 3), ((0, 1, 1), 3, 3), ((0, 1, 2), 3, 2),
    ((0, 1, 2, 3), 4, 3), (tuple(range(9)), 9, 8), ((0, (1, 2, 3)), 4, 2), (((0, 1, 2), 3), 4, 2),
    ((0, (1,)), 2, 2), (((0,), 1), 2, 2), (((0, 1),), 2, 2), ((0, 1, ()), 2, 3), ((0, ()), 1, 2), (((), ()), 2, 2),
    ((0, True), 2, 2), ((False, 1), 2, 2), ((False, True), 2, 2), (False, 1, 2), (True, 2, 2), ((0, 1, True), 2, 3),
    ([0, 1], 2, 2), ([0], 1, 2), ((0, [1, 2]), 3, 2), ([0, (1, 2)], 3, 2), ((0, [1]), 2, 2), ([], 1, 2),
    ((0, None), 2, 2), ((0, 1, None), 2, 3), ((0, "1"), 2, 2), ("0", 1, 2), ("01", 2, 2), ((0, "a"), 2, 2),
    ((0, {}), 2, 2), ({0: 0}, 1, 2), ({0: 0, 1: 1}, 2, 2), ({}, 1, 2), (None, 1, 2), ("", 1, 2), ((0, (1, {2: 2})), 3, 2),
    (((0, 1), (0, 1)), 2, 2), (((0, 1), (0, 1)), 4, 2), (((0, 1), (2, 1)), 4, 2), (((0, 1), (2, 4)), 4, 2),
    (chain(60), 59, 2), (chain(60), 61, 2), ((chain(60), 0), 60, 2), ((chain(59), 60), 60, 2),
    (nested("list", 60), 1, 2), (nested("tuple", 60), 1, 2), (nested("dict", 60), 1, 2),
    (doubled(60), 60, 2), (doubled(60), 1, 8), (doubled(60, ()), 60, 2), (doubled(60, []), 60, 2),
    (doubled(60, None), 60, 2), (doubled(59, (0, 1)), 60, 2), (doubled(58, chain(3)), 60, 2), (doubled(60, True), 2, 2),
]


class TestIsPlan(Refusals, unittest.TestCase):
    def test_plans(self):
        for plan, many, least in PLANS:
            for width in range(2, 9):
                with self.subTest(plan=plan, width=width):
                    self.assertIs(is_plan(plan, many, width), width >= least)

    def test_what_is_no_plan(self):
        for number, (thing, many, width) in enumerate(NO_PLANS):
            with self.subTest(number=number):
                self.assertIs(is_plan(thing, many, width), False)

    def test_of_another_number_of_runs(self):
        for plan, many, least in PLANS:
            for other in (1, 2, 3, 4, 5, 6, 7, 8, 59, 60):
                self.assertIs(is_plan(plan, other, 8), other == many)

    def test_one_thing_put_in(self):
        def with_thing(plan, number, thing):
            if isinstance(plan, tuple):
                return tuple(with_thing(part, number, thing) for part in plan)
            return thing if plan == number else plan

        for plan, many, least in PLANS:
            for number in {0, many // 2, many - 1}:
                for thing in NO_NUMBERS + [-1, many, FORTY, -FORTY, (number,), [number], (number, number)]:
                    with self.subTest(plan=plan, number=number, thing=thing):
                        self.assertIs(is_plan(with_thing(plan, number, thing), many, 8), False)
                        self.assertIs(is_plan(with_thing(plan, number, number), many, 8), True)

    def test_things_of_other_kinds(self):
        for many in (1, 2, 60):
            for thing in NO_NUMBERS:
                self.assertIs(is_plan(thing, many, 8), False)

    def test_each_length_of_a_tuple(self):
        for many in range(2, 13):
            for width in range(2, 9):
                self.assertIs(is_plan(tuple(range(many)), many, width), many <= width)

    def test_no_width(self):
        for thing in NO_WIDTHS:
            for plan in (0, (0, 1), None, [0], "x", True):
                with self.subTest(thing=thing, plan=plan):
                    self.assert_refused(NoWidth, is_plan, plan, 2, thing)

    def test_own(self):
        for plan, many, least in PLANS:
            self.assert_own(is_plan, plan, many, least)
        for thing in ([0, 1], (0, [1, 2]), {0: [1]}, nested("list", 10)):
            self.assert_own(is_plan, copy.deepcopy(thing), 2, 2)


def tuples_by_hand(plan):
    if not isinstance(plan, tuple):
        return []
    return [plan] + [one for part in plan for one in tuples_by_hand(part)]


def numbers_by_hand(plan):
    text = str(plan).replace("(", "").replace(")", "")
    return [int(word) for word in text.split(",")]


class TestMovedPassesOrder(Refusals, unittest.TestCase):
    def test_told(self):
        lengths = [3, 0, 5, 1, 2, 4, 7]
        told = [
            (0, 0, 0, [0]),
            ((0, 1), 3, 1, [0, 1]),
            ((1, 0), 3, 1, [1, 0]),
            ((0, 1, 2), 8, 1, [0, 1, 2]),
            ((2, (0, 1)), 8 + 3, 2, [2, 0, 1]),
            (((1, 2), 0), 8 + 5, 2, [1, 2, 0]),
            (((0, 3), (2, 1)), 9 + 4 + 5, 2, [0, 3, 2, 1]),
            ((3, (2, (1, (0, 4)))), 11 + 10 + 5 + 5, 4, [3, 2, 1, 0, 4]),
            ((((5, 0), 1, 2), ((3, 4), 6)), 22 + 12 + 7 + 10 + 3, 3, [5, 0, 1, 2, 3, 4, 6]),
        ]
        for plan, many, depth, numbers in told:
            with self.subTest(plan=plan):
                self.assert_same(moved(plan, lengths), many)
                self.assert_same(passes(plan), depth)
                self.assert_same(order(plan), numbers)

    def test_plans_of_all_kinds(self):
        for plan, many, least in PLANS:
            lengths = [number * 7 % 5 for number in range(many)]
            wanted = sum(lengths[number] for one in tuples_by_hand(plan) for number in numbers_by_hand(one))
            with self.subTest(plan=plan):
                self.assert_same(moved(plan, lengths), wanted)
                self.assert_same(moved(plan, [0] * many), 0)
                self.assert_same(order(plan), numbers_by_hand(plan))
                self.assertEqual(sorted(order(plan)), list(range(many)))
                self.assertEqual(widest(plan) <= least, True)

    def test_passes_of_deep_and_even_plans(self):
        for many in range(1, 61):
            self.assert_same(passes(chain(many)), many - 1)
            self.assert_same(passes(chain(many, left=False)), many - 1)
        self.assert_same([passes(even(list(range(60)), width)) for width in range(2, 9)], [6, 4, 3, 3, 3, 3, 2])

    def test_what_a_chain_moves(self):
        self.assert_same(moved(chain(60), [1] * 60), sum(range(2, 61)))
        self.assert_same(moved(chain(60), [10 ** 30] * 60), sum(range(2, 61)) * 10 ** 30)

    def test_own(self):
        for plan, many, least in PLANS:
            self.assert_own(order, plan)
            self.assert_own(passes, plan)
            self.assert_own(moved, plan, [1] * many)


def runs_for(many):
    return [sorted((number * place * 5 % 11, "pq"[place % 2]) for place in range(number % 5)) for number in range(many)]


class TestDone(Refusals, unittest.TestCase):
    def test_told(self):
        runs = [[B, C], [], [A, D], [A]]
        self.assert_same(done(0, [[B, C]]), [B, C])
        self.assert_same(done(0, [[]]), [])
        self.assert_same(done((0, 1), runs[:2]), [B, C])
        self.assert_same(done((2, (0, 1)), runs[:3]), [A, B, C, D])
        self.assert_same(done(((3, 1), (2, 0)), runs), [A, A, B, C, D])
        self.assert_same(done((0, 1), [[], []]), [])

    def test_the_row_is_the_sorted_row_of_all(self):
        for plan, many, least in PLANS:
            for runs in (runs_for(many), [[] for _ in range(many)], [[A, C] for _ in range(many)]):
                with self.subTest(plan=plan):
                    self.assert_same(done(plan, runs), sorted(sum(runs, [])))

    def test_not_rising(self):
        for plan, many, least in PLANS:
            for at in {0, many // 2, many - 1}:
                runs = runs_for(many)
                runs[at] = [A, C, B]
                self.assert_refused(NotRising, done, plan, runs, at=at)
                runs[many - 1] = [D, C]
                self.assert_refused(NotRising, done, plan, runs, at=at)

    def test_the_first_run_by_number_not_by_the_plan(self):
        runs = [[A], [C, A], [D, C], [B]]
        self.assert_refused(NotRising, done, ((2, 3), (1, 0)), runs, at=1)
        self.assert_refused(NotRising, done, (2, (1, (3, 0))), runs, at=1)

    def test_own(self):
        for plan, many, least in PLANS:
            self.assert_own(done, plan, runs_for(many))


if __name__ == "__main__":
    unittest.main()
