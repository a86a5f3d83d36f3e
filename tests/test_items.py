"""Promises [2], [3], [4], [11], [12]: pourwright.items."""

import copy
import itertools
import unittest
from collections import Counter

from pourwright.items import far, is_item, is_row, less, rises, sorted_row, wrong_pairs

FORTY = 10 ** 40 - 1
RISING_ITEMS = [
    (-FORTY, ""), (-FORTY, "z"), (-10, ""), (-9, "b"), (-1, "zzzzzzzz"), (0, ""), (0, "a"), (0, "aa"),
    (0, "aaaaaaaa"), (0, "ab"), (0, "b"), (1, ""), (2, "z"), (9, "a"), (10, ""), (FORTY, ""), (FORTY, "a"),
]


def deep(kind):
    thing = (1, "a")
    for _ in range(10):
        thing = [thing] if kind == "list" else (thing,) if kind == "tuple" else {"a": thing}
    return thing


NO_ITEMS = [
    None, True, False, 0, 1, -FORTY, "", "a", "1:a", "ab", [], (), {}, {1: "a"}, {"key": 1, "tag": "a"},
    (True, "a"), (False, ""), ("1", "a"), ("", ""), (None, "a"), ([], "a"), ((1,), "a"), ({}, "a"),
    (1, "aaaaaaaaa"), (1, "A"), (1, "aB"), (1, "a1"), (1, "1"), (1, " "), (1, "a b"), (1, " a"), (1, "a "),
    (1, "\n"), (1, "a\n"), (1, "\na"), (1, "a\nb"), (1, "aaaaaaaa\n"), (1, "a\t"), (1, "`"), (1, "{"),
    (1, "a-"), (1, "_"), (1, "\0"), (1, None), (1, True), (1, 0), (1, 1), (1, ["a"]), (1, ("a",)), (1, {}),
    (1, []), (1, ()), (1,), ("a",), (1, "a", "b"), (1, "a", None), (1, 2), ("a", 1), [1, "a"], [(1, "a")],
    ((1, "a"),), ((1, "a"), (2, "b")), ((1, "a"), "b"), (1, (1, "a")), deep("list"), deep("tuple"),
    deep("dict"), (deep("list"), "a"), (1, deep("dict")), (1, deep("tuple")),
]

ROWS = {
    "none": [],
    "one": [(5, "a")],
    "alike": [(1, "a"), (1, "a"), (1, "a")],
    "rising": [(-2, ""), (0, ""), (0, "a"), (0, "b"), (7, "")],
    "rising with alike ones": [(1, ""), (1, ""), (2, "a"), (2, "a"), (3, "")],
    "falling": [(4, ""), (3, "b"), (3, "a"), (1, ""), (-1, "")],
    "falling by tags": [(1, "b"), (1, "a"), (1, "")],
    "falls at the start": [(2, ""), (1, ""), (3, ""), (4, "")],
    "falls in the midst": [(1, ""), (3, ""), (2, ""), (4, "")],
    "falls at the end": [(1, ""), (2, ""), (4, ""), (3, "")],
    "a tag that begins another one": [(0, "ab"), (0, "a")],
    "mixed": [(3, "c"), (1, ""), (3, "a"), (1, ""), (3, "c"), (-FORTY, "q"), (FORTY, "")],
}
RISING_ROWS = ("none", "one", "alike", "rising", "rising with alike ones")


def small_rows():
    # Every row of up to five items out of four, two of which share a key.
    kinds = [(-1, "b"), (0, ""), (0, "a"), (3, "")]
    for many in range(6):
        for row in itertools.product(kinds, repeat=many):
            yield list(row)


def pairs_by_hand(row):
    return [(i, j) for i in range(len(row)) for j in range(i + 1, len(row)) if row[i] > row[j]]


class TestIsItem(unittest.TestCase):
    def test_items(self):
        for key in (0, 1, -1, 7, -10, FORTY, -FORTY):
            for tag in ("", "a", "z", "m", "az", "abcdefgh", "zzzzzzzz"):
                with self.subTest(key=key, tag=tag):
                    self.assertIs(is_item((key, tag)), True)

    def test_each_small_letter_may_stand_in_a_tag(self):
        for letter in "abcdefghijklmnopqrstuvwxyz":
            self.assertIs(is_item((0, letter)), True)
            self.assertIs(is_item((0, "aaaaaaa" + letter)), True)

    def test_no_other_sign_may_stand_in_a_tag(self):
        for number in range(128):
            sign = chr(number)
            if not "a" <= sign <= "z":
                for tag in (sign, sign + "a", "a" + sign, "a" + sign + "b", "aaaaaaa" + sign):
                    with self.subTest(tag=tag):
                        self.assertIs(is_item((0, tag)), False)

    def test_tags_by_their_length(self):
        for many in range(12):
            self.assertIs(is_item((0, "a" * many)), many <= 8)

    def test_what_is_no_item(self):
        for thing in NO_ITEMS:
            with self.subTest(thing=thing):
                self.assertIs(is_item(thing), False)


class TestIsRow(unittest.TestCase):
    def test_rows(self):
        for name, row in ROWS.items():
            with self.subTest(name=name):
                self.assertIs(is_row(row), True)

    def test_rows_by_their_length(self):
        for many in (0, 1, 2, 199, 200, 201, 202, 400):
            with self.subTest(many=many):
                self.assertIs(is_row([(7, "a")] * many), many <= 200)

    def test_tuples_of_items_are_no_rows(self):
        for thing in ((), ((1, "a"),), ((1, "a"), (2, "b")), (1, "a")):
            with self.subTest(thing=thing):
                self.assertIs(is_row(thing), False)

    def test_one_thing_that_is_no_item(self):
        for thing in NO_ITEMS:
            for row in ([thing], [thing, (1, "")], [(1, ""), thing], [(1, ""), thing, (1, "")]):
                with self.subTest(row=row):
                    self.assertIs(is_row(row), False)
        self.assertIs(is_row([(1, "")] * 199 + [None]), False)

    def test_things_of_other_kinds(self):
        for thing in (None, True, False, 0, 1, "", "1:a", {}, {0: (1, "a")}, {(1, "a"): True}):
            with self.subTest(thing=thing):
                self.assertIs(is_row(thing), False)
        for kind in ("list", "tuple", "dict"):
            self.assertIs(is_row(deep(kind)), False)


class TestLess(unittest.TestCase):
    def test_all_pairs_of_items_that_rise(self):
        for i, one in enumerate(RISING_ITEMS):
            for j, other in enumerate(RISING_ITEMS):
                with self.subTest(one=one, other=other):
                    self.assertIs(less(one, other), i < j)

    def test_keys_go_ahead_of_tags(self):
        self.assertIs(less((1, "z"), (2, "a")), True)
        self.assertIs(less((2, "a"), (1, "z")), False)

    def test_tags_where_the_keys_are_alike(self):
        self.assertIs(less((5, "a"), (5, "b")), True)
        self.assertIs(less((5, "b"), (5, "a")), False)

    def test_a_tag_that_begins_another_one_is_less(self):
        self.assertIs(less((5, "ab"), (5, "abc")), True)
        self.assertIs(less((5, "abc"), (5, "ab")), False)
        self.assertIs(less((5, ""), (5, "a")), True)
        self.assertIs(less((5, "b"), (5, "ab")), False)

    def test_alike_items(self):
        self.assertIs(less((5, "a"), (5, "a")), False)
        self.assertIs(less((FORTY, ""), (10 ** 40 - 1, "")), False)


class TestRises(unittest.TestCase):
    def test_told_rows(self):
        for name, row in ROWS.items():
            with self.subTest(name=name):
                self.assertIs(rises(row), name in RISING_ROWS)

    def test_small_rows(self):
        for row in small_rows():
            self.assertIs(rises(row), all(one <= other for one, other in zip(row, row[1:])), row)

    def test_one_falling_pair_in_a_great_row(self):
        row = [(key, "") for key in range(200)]
        self.assertIs(rises(row), True)
        for place in range(199):
            fallen = row[:place] + [row[place + 1], row[place]] + row[place + 2:]
            self.assertIs(rises(fallen), False, place)


class TestSortedRow(unittest.TestCase):
    def assert_sorted(self, row):
        told = sorted_row(row)
        self.assertIs(told.__class__, list)
        self.assertEqual(Counter(told), Counter(row))
        self.assertTrue(all(one <= other for one, other in zip(told, told[1:])), told)

    def test_told_rows(self):
        self.assertEqual(sorted_row([]), [])
        self.assertEqual(sorted_row([(5, "a")]), [(5, "a")])
        self.assertEqual(sorted_row(ROWS["falling"]), [(-1, ""), (1, ""), (3, "a"), (3, "b"), (4, "")])
        self.assertEqual(
            sorted_row(ROWS["mixed"]),
            [(-FORTY, "q"), (1, ""), (1, ""), (3, "a"), (3, "c"), (3, "c"), (FORTY, "")],
        )
        for name, row in ROWS.items():
            with self.subTest(name=name):
                self.assert_sorted(row)

    def test_rising_rows_stay(self):
        for name in RISING_ROWS:
            with self.subTest(name=name):
                self.assertEqual(sorted_row(ROWS[name]), ROWS[name])

    def test_small_rows(self):
        for row in small_rows():
            self.assert_sorted(row)

    def test_great_rows(self):
        for step in (1, 3, 77, 199):
            self.assert_sorted([(place * step % 67, "abc"[place % 3]) for place in range(200)])


class TestWrongPairsAndFar(unittest.TestCase):
    def test_told_rows(self):
        told = {
            "none": (0, 0),
            "one": (0, 0),
            "alike": (0, 0),
            "rising": (0, 0),
            "rising with alike ones": (0, 0),
            "falling": (10, 4),
            "falling by tags": (3, 2),
            "falls at the start": (1, 1),
            "falls in the midst": (1, 1),
            "falls at the end": (1, 1),
            "a tag that begins another one": (1, 1),
            "mixed": (9, 5),
        }
        for name, row in ROWS.items():
            with self.subTest(name=name):
                self.assertEqual((wrong_pairs(row), far(row)), told[name])

    def test_rows_where_both_differ(self):
        two_swaps = [(2, ""), (1, ""), (4, ""), (3, "")]
        self.assertEqual((wrong_pairs(two_swaps), far(two_swaps)), (2, 1))
        great_first = [(9, ""), (1, ""), (2, ""), (3, "")]
        self.assertEqual((wrong_pairs(great_first), far(great_first)), (3, 1))
        small_last = [(2, ""), (3, ""), (9, ""), (1, "")]
        self.assertEqual((wrong_pairs(small_last), far(small_last)), (3, 3))

    def test_alike_items_make_no_wrong_pair(self):
        row = [(2, "a"), (2, "a"), (1, ""), (1, ""), (2, "a")]
        self.assertEqual((wrong_pairs(row), far(row)), (4, 2))

    def test_the_farthest_item_need_not_be_the_last_one(self):
        row = [(3, ""), (4, ""), (5, ""), (1, ""), (6, ""), (2, ""), (7, "")]
        self.assertEqual((wrong_pairs(row), far(row)), (7, 4))
        row = [(3, ""), (4, ""), (5, ""), (1, ""), (6, ""), (4, ""), (7, "")]
        self.assertEqual((wrong_pairs(row), far(row)), (5, 3))

    def test_small_rows(self):
        for row in small_rows():
            pairs = pairs_by_hand(row)
            self.assertEqual(wrong_pairs(row), len(pairs), row)
            most = max(Counter(behind for ahead, behind in pairs).values(), default=0)
            self.assertEqual(far(row), most, row)

    def test_both_are_nought_just_where_the_row_rises(self):
        for row in small_rows():
            self.assertEqual(wrong_pairs(row) == 0, rises(row), row)
            self.assertEqual(far(row) == 0, rises(row), row)

    def test_great_rows(self):
        rising = [(key, "") for key in range(200)]
        self.assertEqual((wrong_pairs(rising), far(rising)), (0, 0))
        falling = rising[::-1]
        self.assertEqual((wrong_pairs(falling), far(falling)), (19900, 199))
        alike = [(FORTY, "zzzzzzzz")] * 200
        self.assertEqual((wrong_pairs(alike), far(alike)), (0, 0))

    def test_the_answers_are_whole_numbers(self):
        for row in ROWS.values():
            self.assertIs(wrong_pairs(row).__class__, int)
            self.assertIs(far(row).__class__, int)


class TestNothingIsChanged(unittest.TestCase):
    def test_of_rows(self):
        for asked in (is_item, is_row, rises, sorted_row, wrong_pairs, far):
            for name, row in ROWS.items():
                with self.subTest(asked=asked.__name__, name=name):
                    handed = copy.deepcopy(row)
                    first = copy.deepcopy(asked(handed))
                    self.assertEqual(handed, row)
                    self.assertEqual(asked(handed), first)
                    self.assertEqual(asked(copy.deepcopy(row)), first)

    def test_of_things_of_whatever_kind(self):
        for asked in (is_item, is_row):
            for thing in NO_ITEMS + [NO_ITEMS]:
                with self.subTest(asked=asked.__name__, thing=thing):
                    handed = copy.deepcopy(thing)
                    first = asked(handed)
                    self.assertEqual(repr(handed), repr(thing))
                    self.assertIs(asked(handed), first)

    def test_the_sorted_row_is_the_askers_own(self):
        for name, row in ROWS.items():
            with self.subTest(name=name):
                handed = copy.deepcopy(row)
                told = sorted_row(handed)
                again = sorted_row(handed)
                wanted = sorted(row)
                self.assertIsNot(told, handed)
                self.assertIsNot(told, again)
                told.append((0, "x"))
                told.reverse()
                self.assertEqual(handed, row)
                self.assertEqual(again, wanted)
                self.assertEqual(sorted_row(handed), wanted)

    def test_what_is_done_later_to_the_row_changes_no_answer(self):
        for name, row in ROWS.items():
            with self.subTest(name=name):
                handed = copy.deepcopy(row)
                told = sorted_row(handed)
                handed.insert(0, (FORTY, "late"))
                self.assertEqual(told, sorted(row))
                handed.clear()
                self.assertEqual(told, sorted(row))


if __name__ == "__main__":
    unittest.main()
