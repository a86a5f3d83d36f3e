"""Promises [4], [5], [41], [42], [43], [44]: pourwright.pours."""

import itertools
import unittest

from pourwright.choosing import chosen
from pourwright.errors import NoTrace, NotRising
from pourwright.loads import loads, natural
from pourwright.pours import apart, first_wrong, pour, together
from tests.helper import FORTY, NO_NUMBERS, ROWS, Refusals, nested

A, B, C, D = (1, ""), (1, "b"), (2, ""), (3, "")

RUNS = {
    "none": [],
    "one": [[A, B, C]],
    "one, empty": [[]],
    "empty ones": [[], [], []],
    "two": [[A, C], [B, D]],
    "alike": [[A, A], [A], [A, A, A]],
    "one ahead of the other": [[C, D], [A, B]],
    "some empty": [[], [B], [], [A, C], []],
    "three": [[A, D], [B, C, C], [A, B, C]],
    "sixteen": [[(number * 5 % 16, ""), (20 + number * 3 % 8, "x")] for number in range(16)],
    "sixteen alike": [[A, C]] * 16,
    "sixteen of unlike lengths": [[(place, "") for place in range(number)] for number in range(16)],
    "loads": loads(ROWS["great"], 50),
    "chosen": chosen(ROWS["great"], 20),
    "natural": natural(ROWS["up and down"]),
}

FALLING = [
    ([[C, A]], 0),
    ([[A], [C, A]], 1),
    ([[C, A], [A]], 0),
    ([[C, A], [C, A]], 0),
    ([[A, C], [], [A, B, A], [C, A]], 2),
    ([[A]] * 15 + [[B, A]], 15),
    ([[A, A], [B, B], [(1, "b"), (1, "a")], []], 2),
    ([[], [A, B, C, D, A]], 1),
]


def pour_by_hand(runs):
    told = sorted((item, number) for number, run in enumerate(runs) for item in run)
    return ([item for item, number in told], [number for item, number in told])


def first_wrong_by_hand(runs, trace, order=True):
    left = [list(run) for run in runs]
    for at, thing in enumerate(trace):
        if thing.__class__ is not int or not 0 <= thing < len(runs):
            return ("form", at)
        if not left[thing]:
            return ("empty", at)
        if order and thing != min((run[0], number) for number, run in enumerate(left) if run)[1]:
            return ("order", at)
        left[thing].pop(0)
    return ("fewer", len(trace)) if any(left) else None


def wrong_traces(runs):
    """Traces near the right one, most of which are wrong."""
    right = pour_by_hand(runs)[1]
    many = len(right)
    things = [len(runs), len(runs) + 1, -1, -len(runs), FORTY, -FORTY, True, False, None, "0", "", [], [0], (0,), {},
              nested("list", 10), nested("tuple", 10), nested("dict", 10)]
    yield right[::-1]
    yield [0] * many
    for at in sorted({0, 1, many // 2, many - 1, many} & set(range(many + 1))):
        yield right[:at]
        yield right[:at] + right[at + 1:]
        yield right[at:] + right[:at]
        yield right[:at] + right[at:at + 2][::-1] + right[at + 2:]
        for number in range(len(runs)):
            yield right[:at] + [number] + right[at:]
            yield right[:at] + [number] + right[at + 1:]
        for thing in things:
            yield right[:at] + [thing] + right[at:]
            yield right[:at] + [thing] + right[at + 1:]
            yield right[:at] + [thing]
            yield right[:at] + [thing] + right[at + 1:][::-1]


class TestPour(Refusals, unittest.TestCase):
    def test_told(self):
        told = {
            "none": ([], []),
            "one": ([A, B, C], [0, 0, 0]),
            "one, empty": ([], []),
            "empty ones": ([], []),
            "two": ([A, B, C, D], [0, 1, 0, 1]),
            "alike": ([A] * 6, [0, 0, 1, 2, 2, 2]),
            "one ahead of the other": ([A, B, C, D], [1, 1, 0, 0]),
            "some empty": ([A, B, C], [3, 1, 3]),
            "three": ([A, A, B, B, C, C, C, D], [0, 2, 1, 2, 1, 1, 2, 0]),
            "sixteen alike": ([A] * 16 + [C] * 16, list(range(16)) * 2),
        }
        for name, wanted in told.items():
            with self.subTest(name=name):
                self.assert_same(pour(RUNS[name]), wanted)

    def test_runs_of_all_kinds(self):
        for name, runs in RUNS.items():
            with self.subTest(name=name):
                self.assert_same(pour(runs), pour_by_hand(runs))
                self.assertEqual(pour(runs)[0], sorted(sum(runs, [])))

    def test_small_runs(self):
        rising = [list(run) for many in range(3) for run in itertools.combinations_with_replacement((A, B, C), many)]
        for runs in itertools.product(rising, repeat=3):
            self.assert_same(pour(list(runs)), pour_by_hand(runs))

    def test_not_rising(self):
        for runs, at in FALLING:
            with self.subTest(runs=runs):
                self.assert_refused(NotRising, pour, runs, at=at)

    def test_each_run_that_falls(self):
        for many in (1, 2, 5, 16):
            for at in range(many):
                runs = [[A, B, C] for _ in range(many)]
                runs[at] = [A, C, B]
                self.assert_refused(NotRising, pour, runs, at=at)

    def test_own(self):
        for runs in RUNS.values():
            self.assert_own(pour, [list(run) for run in runs])


class TestFirstWrong(Refusals, unittest.TestCase):
    def test_told(self):
        runs = [[A, C], [B, D], []]
        told = [
            ([0, 1, 0, 1], None),
            ([], ("fewer", 0)),
            ([0], ("fewer", 1)),
            ([0, 1, 0], ("fewer", 3)),
            ([1, 0, 0, 1], ("order", 0)),
            ([0, 0, 1, 1], ("order", 1)),
            ([0, 1, 1, 0], ("order", 2)),
            ([2, 0, 1, 0, 1], ("empty", 0)),
            ([0, 1, 0, 0], ("empty", 3)),
            ([0, 1, 0, 1, 0], ("empty", 4)),
            ([0, 1, 0, 1, 2], ("empty", 4)),
            ([0, 1, 0, 1, 3], ("form", 4)),
            ([3], ("form", 0)),
            ([-1], ("form", 0)),
            ([0, True, 0, 1], ("form", 1)),
            ([False, 1, 0, 1], ("form", 0)),
            ([0, 1, None, 1], ("form", 2)),
            ([0, 1, 0, "1"], ("form", 3)),
            ([0, [1], 0, 1], ("form", 1)),
            ([0, 1, 0, 1, []], ("form", 4)),
            ([0, 0, None], ("order", 1)),
            ([None, 0, 0], ("form", 0)),
            ([0, 1, 0, 0, "x", 9], ("empty", 3)),
        ]
        for trace, wrong in told:
            with self.subTest(trace=trace):
                self.assert_same(first_wrong(runs, trace), wrong)

    def test_no_runs_and_empty_ones(self):
        self.assert_same(first_wrong([], []), None)
        self.assert_same(first_wrong([], [0]), ("form", 0))
        self.assert_same(first_wrong([[]], []), None)
        self.assert_same(first_wrong([[]], [0]), ("empty", 0))
        self.assert_same(first_wrong([[], []], [1, 2]), ("empty", 0))
        self.assert_same(first_wrong([[], []], [2, 1]), ("form", 0))

    def test_alike_items_go_from_the_least_number(self):
        self.assert_same(first_wrong([[A], [A]], [0, 1]), None)
        self.assert_same(first_wrong([[A], [A]], [1, 0]), ("order", 0))
        self.assert_same(first_wrong([[A, A], [A]], [0, 1, 0]), ("order", 1))

    def test_the_trace_itself(self):
        for name, runs in RUNS.items():
            with self.subTest(name=name):
                self.assert_same(first_wrong(runs, pour(runs)[1]), None)

    def test_traces_that_are_wrong(self):
        for name, runs in RUNS.items():
            for trace in wrong_traces(runs):
                with self.subTest(name=name, trace=trace):
                    self.assert_same(first_wrong(runs, trace), first_wrong_by_hand(runs, trace))

    def test_nothing_is_wrong_just_of_the_trace_itself(self):
        for runs in ([[A, C], [B]], [[A], [A], [A]], [[A, A], [], [A, B]]):
            right = pour(runs)[1]
            for many in range(len(right) + 2):
                for trace in itertools.product(range(-1, len(runs) + 1), repeat=many):
                    wrong = first_wrong(runs, list(trace))
                    self.assertEqual(wrong is None, list(trace) == right)
                    self.assert_same(wrong, first_wrong_by_hand(runs, trace))

    def test_not_rising_whatever_the_trace(self):
        for runs, at in FALLING:
            for trace in ([], [0], [0, 1], [None], ["x", 17], [-1], [0] * 30, pour_by_hand(runs)[1]):
                with self.subTest(runs=runs, trace=trace):
                    self.assert_refused(NotRising, first_wrong, runs, trace, at=at)

    def test_own(self):
        for runs in RUNS.values():
            for trace in (pour(runs)[1], [], [0, [1]], [None]):
                self.assert_own(first_wrong, [list(run) for run in runs], list(trace))


class TestTogether(Refusals, unittest.TestCase):
    def test_told(self):
        runs = [[D, A], [], [C, B, A]]
        self.assert_same(together(runs, [0, 0, 2, 2, 2]), [D, A, C, B, A])
        self.assert_same(together(runs, [2, 0, 2, 0, 2]), [C, D, B, A, A])
        self.assert_same(together(runs, [2, 2, 2, 0, 0]), [C, B, A, D, A])
        self.assert_same(together([], []), [])
        self.assert_same(together([[], []], []), [])

    def test_what_was_poured(self):
        for name, runs in RUNS.items():
            with self.subTest(name=name):
                self.assert_same(together(runs, pour(runs)[1]), pour(runs)[0])

    def test_refused(self):
        runs = [[D, A], [], [C]]
        told = [
            ([], "fewer", 0), ([0], "fewer", 1), ([0, 2], "fewer", 2), ([0, 0], "fewer", 2), ([2], "fewer", 1),
            ([1], "empty", 0), ([2, 2, 0, 0], "empty", 1), ([0, 0, 0, 2], "empty", 2), ([0, 2, 0, 0], "empty", 3),
            ([0, 2, 0, 1], "empty", 3), ([3], "form", 0), ([0, 2, 0, 3], "form", 3), ([-1, 2, 0], "form", 0),
            ([0, True], "form", 1), ([False, 0, 2], "form", 0), ([0, None, 1], "form", 1), ([0, 1, None], "empty", 1),
            ([0, 2, "0"], "form", 2), ([0, [0], 2], "form", 1), ([(0,)], "form", 0), ([{}], "form", 0),
            ([FORTY], "form", 0), ([-FORTY], "form", 0),
        ]
        for trace, word, at in told:
            with self.subTest(trace=trace):
                self.assert_refused(NoTrace, together, runs, trace, word=word, at=at)

    def test_no_runs(self):
        self.assert_refused(NoTrace, together, [], [0], word="form", at=0)
        self.assert_refused(NoTrace, together, [[]], [0], word="empty", at=0)
        self.assert_refused(NoTrace, together, [[A]], [], word="fewer", at=0)

    def test_traces_of_all_kinds(self):
        cases = list(RUNS.values()) + [[run[::-1] for run in runs] for runs in RUNS.values()]
        for runs in cases:
            for trace in wrong_traces(runs):
                wrong = first_wrong_by_hand(runs, trace, order=False)
                if wrong is None:
                    row = together(runs, trace)
                    self.assertEqual([[item for item, number in zip(row, trace) if number == one]
                                      for one in range(len(runs))], runs)
                else:
                    self.assert_refused(NoTrace, together, runs, trace, word=wrong[0], at=wrong[1])

    def test_own(self):
        for runs in RUNS.values():
            self.assert_own(together, [list(run) for run in runs], pour(runs)[1])


class TestApart(Refusals, unittest.TestCase):
    def test_told(self):
        self.assert_same(apart([], [], 0), [])
        self.assert_same(apart([], [], 1), [[]])
        self.assert_same(apart([], [], 16), [[]] * 16)
        self.assert_same(apart([D, A, C, B], [1, 0, 1, 1], 2), [[A], [D, C, B]])
        self.assert_same(apart([D, A, C, B], [3, 0, 3, 0], 5), [[A, B], [], [], [D, C], []])
        self.assert_same(apart([D, A], [0, 0], 1), [[D, A]])

    def test_refused(self):
        row = [A, B, C]
        told = [
            ([], "fewer", 0), ([0], "fewer", 1), ([0, 1], "fewer", 2), ([0, 1, 0, 1], "more", 4), ([0] * 9, "more", 9),
            ([2], "form", 0), ([0, 2], "form", 1), ([0, 1, 2], "form", 2), ([0, 1, 0, 2], "form", 3), ([-1], "form", 0),
            ([0, 1, 0, 0, 0, None], "form", 5), ([True, 0, 0], "form", 0), ([0, False, 0], "form", 1),
            ([0, 0, "0"], "form", 2), ([0, [0], 0], "form", 1), ([0, (0,), None], "form", 1), ([{}, 0, 0], "form", 0),
            ([None], "form", 0), ([FORTY, 0, 0], "form", 0), ([0, 0, -FORTY], "form", 2),
            ([nested("list", 10)], "form", 0),
        ]
        for trace, word, at in told:
            with self.subTest(trace=trace):
                self.assert_refused(NoTrace, apart, row, trace, 2, word=word, at=at)

    def test_no_runs(self):
        self.assert_refused(NoTrace, apart, [], [0], 0, word="form", at=0)
        self.assert_refused(NoTrace, apart, [A], [0], 0, word="form", at=0)
        self.assert_refused(NoTrace, apart, [A], [], 0, word="fewer", at=0)
        self.assert_refused(NoTrace, apart, [], [0], 1, word="more", at=1)

    def test_things_that_are_no_numbers(self):
        for thing in NO_NUMBERS + [16, -1]:
            self.assert_refused(NoTrace, apart, [A, B], [0, thing], 16, word="form", at=1)

    def test_none_to_sixteen_runs(self):
        row = ROWS["great"]
        for many in range(1, 17):
            trace = [place * 7 % many for place in range(len(row))]
            runs = apart(row, trace, many)
            self.assertEqual(len(runs), many)
            self.assert_same(together(runs, trace), row)

    def test_own(self):
        for runs in RUNS.values():
            poured = pour(runs)
            self.assert_own(apart, poured[0], poured[1], len(runs))


class TestTogetherAndApart(Refusals, unittest.TestCase):
    def test_what_was_led_together_is_led_apart(self):
        for name, runs in RUNS.items():
            with self.subTest(name=name):
                right = pour(runs)[1]
                for trace in (right, right[::-1], sorted(right), sorted(right, reverse=True)):
                    self.assert_same(apart(together(runs, trace), trace, len(runs)), runs)

    def test_runs_that_fall(self):
        runs = [[D, A, C], [], [B, A]]
        for trace in set(itertools.permutations([0, 0, 0, 2, 2])):
            self.assert_same(apart(together(runs, list(trace)), list(trace), 3), runs)

    def test_neighbours_poured_first(self):
        for name, runs in RUNS.items():
            for start in range(len(runs)):
                for behind in range(start + 1, len(runs) + 1):
                    poured = pour(runs[start:behind])[0]
                    row = pour(runs[:start] + [poured] + runs[behind:])[0]
                    self.assertEqual(row, pour(runs)[0], (name, start, behind))


if __name__ == "__main__":
    unittest.main()
