"""Promises [4], [5], [7], [32], [33], [34], [35]: pourwright.choosing."""

import copy
import functools
import itertools
import unittest
from collections import Counter

from pourwright.choosing import Chooser, chosen, is_late, late
from pourwright.errors import NoRoom
from pourwright.items import far
from pourwright.loads import loads, natural
from tests.helper import FORTY, NO_NUMBERS, NO_ROOMS, ROWS, Refusals, by_hand_rises, nested, small_rows

END = ("end",)


def item(key):
    return (key, "")


def row_of(keys):
    return [item(key) for key in keys]


def out(key):
    return ("out", item(key))


def few_rows():
    yield from small_rows(6)
    for many in (5, 6):
        for keys in itertools.permutations(range(many)):
            yield row_of(keys)


@functools.lru_cache(maxsize=None)
def fewest_by_hand(rest, kept, last, room):
    """The fewest further runs of any way that has these items to come, keeps these, and gave this one out last."""
    ways = []
    if rest and len(kept) < room:
        ways.append(fewest_by_hand(rest[1:], tuple(sorted(kept + rest[:1])), last, room))
    for place, one in enumerate(kept):
        left = kept[:place] + kept[place + 1:]
        if last is not None and one >= last:
            ways.append(fewest_by_hand(rest, left, one, room))
        ways.append(1 + fewest_by_hand(rest, left, one, room))
    return min(ways, default=0)


class TestChooser(Refusals, unittest.TestCase):
    def assert_led(self, room, keys, gives, finish):
        chooser = Chooser(room)
        # Twice, as it is behind a finish as it was made.
        for _ in range(2):
            self.assert_same([chooser.give(item(key)) for key in keys], gives)
            self.assert_same(chooser.finish(), finish)

    def test_nothing_given(self):
        for room in (1, 2, 3, 50):
            chooser = Chooser(room)
            self.assert_same([chooser.finish(), chooser.finish()], [[], []])

    def test_room_of_one(self):
        self.assert_led(1, [5], [[]], [out(5), END])
        self.assert_led(1, [5, 6], [[], [out(5)]], [out(6), END])
        self.assert_led(1, [6, 5], [[], [out(6)]], [END, out(5), END])
        self.assert_led(1, [6, 6, 5, 5], [[], [out(6)], [out(6)], [END, out(5)]], [out(5), END])

    def test_room_of_two(self):
        self.assert_led(2, [3], [[]], [out(3), END])
        self.assert_led(2, [3, 1], [[], []], [out(1), out(3), END])
        self.assert_led(2, [3, 1, 2], [[], [], [out(1)]], [out(2), out(3), END])
        self.assert_led(2, [3, 2, 1], [[], [], [out(2)]], [out(3), END, out(1), END])
        self.assert_led(
            2, [4, 3, 2, 1, 9],
            [[], [], [out(3)], [out(4)], [END, out(1)]],
            [out(2), out(9), END],
        )

    def test_room_of_three(self):
        self.assert_led(3, [2, 1], [[], []], [out(1), out(2), END])
        self.assert_led(3, [2, 1, 3], [[], [], []], [out(1), out(2), out(3), END])
        self.assert_led(
            3, [5, 4, 6, 1, 2, 3, 0],
            [[], [], [], [out(4)], [out(5)], [out(6)], [END, out(1)]],
            [out(2), out(3), END, out(0), END],
        )

    def test_alike_items(self):
        self.assert_led(2, [7, 7, 7, 7], [[], [], [out(7)], [out(7)]], [out(7), out(7), END])
        self.assert_led(2, [7, 7, 3, 3, 7], [[], [], [out(7)], [out(7)], [END, out(3)]], [out(3), out(7), END])

    def test_one_goes_out_ahead_of_the_one_that_comes_in(self):
        chooser = Chooser(2)
        chooser.give(item(5))
        chooser.give(item(6))
        self.assert_same(chooser.give(item(1)), [out(5)])

    def test_tags(self):
        chooser = Chooser(1)
        told = [chooser.give((1, tag)) for tag in ("a", "b", "b", "ab", "")]
        wanted = [[], [("out", (1, "a"))], [("out", (1, "b"))], [("out", (1, "b"))], [END, ("out", (1, "ab"))]]
        self.assert_same(told, wanted)
        self.assert_same(chooser.finish(), [END, ("out", (1, "")), END])

    def test_room_of_fifty(self):
        chooser = Chooser(50)
        for place in range(50):
            self.assert_same(chooser.give(item(100 - place)), [])
        self.assert_same(chooser.give(item(0)), [out(51)])
        wanted = [out(key) for key in range(52, 101)] + [END, out(0), END]
        self.assert_same(chooser.finish(), wanted)

    def test_just_as_many_as_the_room(self):
        for room in (1, 2, 3, 50):
            keys = [place * 7 % room for place in range(room)]
            self.assert_led(room, keys, [[]] * room, [out(key) for key in sorted(keys)] + [END])

    def test_used_again_behind_a_finish(self):
        chooser = Chooser(1)
        chooser.give(item(9))
        chooser.finish()
        self.assert_same(chooser.finish(), [])
        # The run behind a finish is a new one: nothing went out in it that 1 could be less than.
        self.assert_same([chooser.give(item(1)), chooser.give(item(2))], [[], [out(1)]])
        self.assert_same(chooser.finish(), [out(2), END])
        self.assert_same(chooser.finish(), [])

    def test_two_choosers_side_by_side(self):
        one, other, third = Chooser(2), Chooser(3), Chooser(2)
        told = []
        for given in ROWS["mixed"]:
            told.append(one.give(given))
            other.give(given)
            self.assert_same(third.give(given), told[-1])
        told.append(one.finish())
        self.assert_same(third.finish(), told[-1])
        alone = Chooser(3)
        for given in ROWS["mixed"]:
            alone.give(given)
        self.assert_same(other.finish(), alone.finish())

    def test_what_is_told_is_the_askers_own(self):
        chooser, other = Chooser(2), Chooser(2)
        for given in ROWS["up and down"]:
            told = chooser.give(given)
            self.assert_same(told, other.give(given))
            told.append("spoiled")
        told = chooser.finish()
        self.assert_same(told, other.finish())
        told.clear()
        self.assert_same([chooser.finish(), other.finish()], [[], []])

    def test_no_room(self):
        for thing in NO_ROOMS:
            with self.subTest(thing=thing):
                self.assert_refused(NoRoom, Chooser, thing)
                for row in ([], ROWS["mixed"]):
                    self.assert_refused(NoRoom, chosen, row, thing)
                    self.assert_refused(NoRoom, late, row, thing)
                    for paper in (None, (0, []), (3, [0]), "x", (1, [0]), [], True):
                        self.assert_refused(NoRoom, is_late, paper, row, thing)

    def test_each_room(self):
        for room in range(1, 51):
            chooser = Chooser(room)
            told = sum([chooser.give(item(key)) for key in range(60)], [])
            self.assert_same(told, [out(key) for key in range(60 - room)])


class TestChosen(Refusals, unittest.TestCase):
    def rooms(self, row):
        return sorted({1, 2, 3, 4, 7, 20, 49, 50, min(len(row) + 1, 50), min(max(len(row), 1), 50)})

    def assert_chosen(self, row, room):
        """What holds of choosing whatever the row."""
        runs = chosen(row, room)
        self.assertTrue(all(run and by_hand_rises(run) for run in runs), (row, room))
        self.assertEqual(Counter(sum(runs, [])), Counter(row))
        self.assertTrue(all(len(run) >= room for run in runs[:-1]), (row, room))
        self.assertEqual(len(runs) == 1, row != [] and far(row) < room)
        self.assertLessEqual(len(runs), len(loads(row, room)))
        self.assertLessEqual(len(runs), len(natural(row)))
        self.assertEqual(runs == [], row == [])
        return runs

    def test_told_runs(self):
        told = [
            ([], 3, []),
            ([1], 1, [[1]]),
            ([1], 50, [[1]]),
            ([3, 2, 1], 1, [[3], [2], [1]]),
            ([3, 2, 1], 2, [[2, 3], [1]]),
            ([3, 2, 1], 3, [[1, 2, 3]]),
            ([3, 2, 1], 4, [[1, 2, 3]]),
            ([1, 2, 3, 4], 2, [[1, 2, 3, 4]]),
            ([4, 3, 2, 1, 9], 2, [[3, 4], [1, 2, 9]]),
            ([2, 1, 4, 3, 6, 5], 2, [[1, 2, 3, 4, 5, 6]]),
            ([5, 5, 1, 1, 5], 2, [[5, 5], [1, 1, 5]]),
            ([5, 5, 1, 1, 5, 0], 3, [[1, 1, 5, 5, 5], [0]]),
        ]
        for keys, room, runs in told:
            with self.subTest(keys=keys, room=room):
                self.assert_same(chosen(row_of(keys), room), [row_of(run) for run in runs])

    def test_rows_of_all_kinds(self):
        for name, row in ROWS.items():
            for room in self.rooms(row):
                with self.subTest(name=name, room=room):
                    self.assert_chosen(row, room)

    def test_the_same_runs_as_a_choosers_own(self):
        for name, row in ROWS.items():
            for room in self.rooms(row):
                chooser = Chooser(room)
                told = sum([chooser.give(one) for one in row], []) + chooser.finish()
                runs = [[]]
                for deed in told:
                    if deed == END:
                        runs.append([])
                    else:
                        runs[-1].append(deed[1])
                with self.subTest(name=name, room=room):
                    self.assert_same(chosen(row, room), runs[:-1])
                    self.assertEqual(runs[-1], [])

    def test_room_of_one_makes_the_natural_runs(self):
        for row in list(ROWS.values()) + list(few_rows()):
            self.assertEqual(chosen(row, 1), natural(row))

    def test_what_holds_of_small_rows(self):
        for row in few_rows():
            for room in (1, 2, 3, 7):
                self.assert_chosen(row, room)

    def test_a_greater_room_never_makes_more(self):
        for row in few_rows():
            many = [len(chosen(row, room)) for room in range(1, 8)]
            self.assertEqual(many, sorted(many, reverse=True), row)
        for name, row in ROWS.items():
            many = [len(chosen(row, room)) for room in range(1, 51)]
            self.assertEqual(many, sorted(many, reverse=True), name)

    def test_one_run_just_where_it_is_less_far_than_the_room(self):
        for greater in range(1, 8):
            row = row_of(range(1, greater + 1)) + row_of([0])
            self.assertEqual(far(row), greater)
            self.assertEqual(len(chosen(row, greater)), 2)
            self.assertEqual(chosen(row, greater + 1), [row_of(range(greater + 1))])

    def test_no_way_makes_fewer(self):
        for row in few_rows():
            for room in (1, 2, 3, 4):
                fewest = fewest_by_hand(tuple(row), (), None, room)
                self.assertEqual(len(chosen(row, room)), fewest, (row, room))

    def test_own(self):
        for row in ROWS.values():
            for room in (1, 3, 50):
                self.assert_own(chosen, list(row), room)


def late_by_hand(row, room):
    for at, one in enumerate(row):
        ahead = [place for place in range(at) if row[place] > one]
        if len(ahead) >= room:
            return (at, ahead[:room])
    return None


class TestLate(Refusals, unittest.TestCase):
    def test_told(self):
        told = [
            ([], 1, None),
            ([1], 1, None),
            ([1, 2], 1, None),
            ([1, 1], 1, None),
            ([2, 1], 1, (1, [0])),
            ([2, 1], 2, None),
            ([3, 2, 1], 1, (1, [0])),
            ([3, 2, 1], 2, (2, [0, 1])),
            ([3, 2, 1], 3, None),
            ([5, 1, 5, 5, 5, 2, 0], 2, (5, [0, 2])),
            ([5, 1, 5, 5, 5, 2, 0], 3, (5, [0, 2, 3])),
            ([5, 1, 5, 5, 5, 2, 0], 5, (6, [0, 1, 2, 3, 4])),
            ([5, 1, 5, 5, 5, 2, 0], 6, (6, [0, 1, 2, 3, 4, 5])),
            ([5, 1, 5, 5, 5, 2, 0], 7, None),
        ]
        for keys, room, paper in told:
            with self.subTest(keys=keys, room=room):
                self.assert_same(late(row_of(keys), room), paper)

    def assert_late(self, row, room):
        paper = late(row, room)
        self.assert_same(paper, late_by_hand(row, room))
        self.assertEqual(paper is None, len(chosen(row, room)) <= 1)
        self.assertIs(is_late(paper, row, room), paper is not None)

    def test_rows_of_all_kinds(self):
        for row in list(ROWS.values()):
            for room in (1, 2, 3, 4, 20, 49, 50):
                self.assert_late(row, room)
        for row in few_rows():
            for room in (1, 2, 3, 7):
                self.assert_late(row, room)

    def test_own(self):
        for row in ROWS.values():
            for room in (1, 3, 50):
                self.assert_own(late, list(row), room)


class TestIsLate(Refusals, unittest.TestCase):
    ROW = row_of([5, 1, 5, 3, 5, 2, 0])

    def test_whatever_shows_as_much(self):
        for paper in ((5, [0, 2]), (5, [0, 3]), (5, [3, 4]), (6, [0, 1]), (6, [1, 5]), (6, [4, 5]), (3, [0, 2])):
            with self.subTest(paper=paper):
                self.assertIs(is_late(paper, self.ROW, 2), True)

    def test_all_papers_of_a_row(self):
        for room in (1, 2, 3):
            for at in range(-1, 8):
                for ahead in itertools.product(range(-1, 8), repeat=room):
                    wanted = (
                        0 <= at < 7 and list(ahead) == sorted(set(ahead)) and ahead[0] >= 0 and ahead[-1] < at
                        and all(self.ROW[place] > self.ROW[at] for place in ahead)
                    )
                    self.assertIs(is_late((at, list(ahead)), self.ROW, room), wanted, (at, ahead))

    def test_what_shows_less(self):
        for paper in [
            [5, [0, 2]], (5, (0, 2)), ((5, [0, 2]),), (5, [0, 2], 1), (5, [0, 2], []), (5,), ([0, 2],), ([0, 2], 5), (), [],
            (5, [0]), (5, [0, 2, 3]), (5, [0, 2, 3, 4]), (5, []), (5, [2, 0]), (5, [0, 0]), (5, [2, 2]), (5, [0, 5]),
            (5, [0, 6]), (5, [4, 7]), (5, [-1, 0]), (5, [-7, 0]), (5, [-2, -1]), (5, [0, 1]), (5, [1, 3]), (4, [0, 2]),
            (1, [0, 0]), (0, [0, 2]), (7, [0, 2]), (-1, [0, 1]), (-2, [0, 2]), (FORTY, [0, 2]), (-FORTY, [0, 2]),
            (5, [0, FORTY]), (5, [-FORTY, 0]), (6, [0, True]), (6, [False, 1]), (6, [True, 2]), (True, [0, 2]),
            (False, [0, 2]), (None, [0, 2]), ("5", [0, 2]), (5, ["0", "2"]), (5, [0, "2"]), (5, [None, 2]), (5, [[0], 2]),
            (5, [[0, 2]]), (5, [(0,), (2,)]), (5, {0: 0, 2: 2}), (5, {0: True, 2: True}), (5, "02"), (5, None), (5, True),
            (5, 2), ([5], [0, 2]), ((5,), [0, 2]), ({}, [0, 2]), {5: [0, 2]}, {0: 5, 1: [0, 2]}, "5", None, True, False, 5,
            (5, nested("list", 9)), (nested("tuple", 9), [0, 2]), (5, [0, nested("dict", 8)]),
        ]:
            with self.subTest(paper=paper):
                self.assertIs(is_late(paper, self.ROW, 2), False)

    def test_true_is_no_place(self):
        row = row_of([5, 4, 3])
        self.assertIs(is_late((1, [0]), row, 1), True)
        self.assertIs(is_late((True, [0]), row, 1), False)
        self.assertIs(is_late((1, [False]), row, 1), False)
        self.assertIs(is_late((2, [1]), row, 1), True)
        self.assertIs(is_late((2, [True]), row, 1), False)

    def test_alike_items_are_not_greater(self):
        self.assertIs(is_late((1, [0]), row_of([5, 5]), 1), False)
        self.assertIs(is_late((1, [0]), [(5, "b"), (5, "a")], 1), True)
        self.assertIs(is_late((1, [0]), [(5, "a"), (5, "b")], 1), False)

    def test_things_of_other_kinds(self):
        for row in ([], [item(1)], self.ROW):
            for thing in NO_NUMBERS + [0, 1, -1, (0, []), (0, [0]), (0, [-1])]:
                for room in (1, 2, 50):
                    with self.subTest(row=row, thing=thing, room=room):
                        self.assertIs(is_late(thing, row, room), False)

    def test_of_another_room_or_row(self):
        self.assertIs(is_late((5, [0, 2]), self.ROW, 1), False)
        self.assertIs(is_late((5, [0, 2]), self.ROW, 3), False)
        self.assertIs(is_late((5, [0, 2]), self.ROW[:5], 2), False)
        self.assertIs(is_late((5, [0, 2]), [], 2), False)

    def test_own(self):
        for paper in ((5, [0, 2]), (5, [2, 0]), None, [5, [0, 2]]):
            self.assert_own(is_late, copy.deepcopy(paper), list(self.ROW), 2)


if __name__ == "__main__":
    unittest.main()
