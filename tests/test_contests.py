"""Promises [4], [5], [21], [22], [23]: pourwright.contests."""

import copy
import itertools
import unittest

from pourwright.contests import Contest
from pourwright.errors import NoPlace
from tests.helper import FORTY, NO_NUMBERS, Refusals

A, B, C, D = (1, ""), (1, "a"), (2, ""), (-3, "z")
MANY = (1, 2, 3, 5, 8, 31, 32)


def some_heads(many, step=7):
    heads = [(place * step % 11, "ab"[place % 2]) for place in range(many)]
    return [None if place % 5 == 3 else head for place, head in enumerate(heads)]


def first_by_hand(heads, start=0, behind=None):
    there = [place for place in range(len(heads))[start:behind] if heads[place] is not None]
    return min(there, key=lambda place: (heads[place], place), default=None)


def tree_by_hand(heads, start, behind):
    many = behind - start
    if many == 1:
        return start
    middle = start + many // 2 + many % 2
    return (
        first_by_hand(heads, start, behind),
        tree_by_hand(heads, start, middle),
        tree_by_hand(heads, middle, behind),
    )


def ways_by_hand(tree, depth=0):
    if isinstance(tree, int):
        return {tree: depth}
    return {**ways_by_hand(tree[1], depth + 1), **ways_by_hand(tree[2], depth + 1)}


class TestContest(Refusals, unittest.TestCase):
    def assert_is(self, contest, heads):
        many = len(heads)
        self.assert_same(contest.first(), first_by_hand(heads))
        self.assert_same([contest.head(place) for place in range(many)], list(heads))
        self.assert_same(contest.tree(), tree_by_hand(heads, 0, many))

    def test_the_first_one(self):
        told = [
            ([A], 0), ([None], None), ([A, C], 0), ([C, A], 1), ([A, A], 0), ([None, A], 1), ([A, None], 0),
            ([None, None], None), ([B, A, C], 1), ([C, B, A], 2), ([B, A, A], 1), ([A, B, A], 0), ([C, None, C], 0),
            ([None, C, C], 1), ([None, None, C], 2), ([C, C, C, C, D], 4), ([None] * 5, None), ([C, D, A, D, B], 1),
            ([None, C, None, B, None, B, C, None], 3), ([(FORTY, ""), (-FORTY, "z"), (-FORTY, "")], 2),
        ]
        for heads, first in told:
            with self.subTest(heads=heads):
                self.assert_same(Contest(heads).first(), first)

    def test_contests_just_made(self):
        for many in MANY:
            for heads in ([A] * many, [None] * many, some_heads(many), some_heads(many, 3)):
                with self.subTest(heads=heads):
                    self.assert_is(Contest(heads), heads)

    def test_all_small_contests(self):
        for many in range(1, 5):
            for heads in itertools.product((None, A, B, C), repeat=many):
                self.assert_is(Contest(list(heads)), heads)

    def test_of_alike_heads_the_least_place_goes(self):
        for many in MANY:
            for place in range(many):
                heads = [C] * place + [A] * (many - place)
                self.assert_same(Contest(heads).first(), place)
                heads = [None] * place + [A] * (many - place)
                self.assert_same(Contest(heads).first(), place)

    def test_heads_put_at_each_place(self):
        for many in MANY:
            for place in range(many):
                heads = some_heads(many)
                contest = Contest(heads)
                for head in (D, None, C, A, A, heads[place], (FORTY, "z"), None, None, B):
                    self.assertIsNone(contest.put(place, head))
                    heads[place] = head
                    self.assert_is(contest, heads)

    def test_one_put_as_it_was(self):
        for many in MANY:
            heads = some_heads(many)
            contest = Contest(heads)
            for place in range(many):
                contest.put(place, heads[place])
                self.assert_is(contest, heads)

    def test_heads_put_one_behind_the_other(self):
        for many in MANY:
            heads = some_heads(many)
            contest = Contest(heads)
            for step in range(120):
                place = step * 13 % many
                heads[place] = None if step % 4 == 1 else (step * 31 % 17 - 8, "xy"[step % 2])
                contest.put(place, heads[place])
                self.assert_is(contest, heads)

    def test_all_heads_go(self):
        heads = some_heads(32)
        contest = Contest(heads)
        gone = []
        while contest.first() is not None:
            gone.append(contest.head(contest.first()))
            contest.put(contest.first(), None)
        self.assertEqual(gone, sorted(head for head in heads if head is not None))
        self.assert_is(contest, [None] * 32)

    def test_what_was_handed_in_stays_and_later_changes_nothing(self):
        for many in MANY:
            heads = some_heads(many)
            before = list(heads)
            contest = Contest(heads)
            contest.put(0, D)
            self.assertEqual(heads, before)
            contest.put(0, before[0])
            matches = contest.matches()
            heads[0] = D
            heads.append(D)
            heads.reverse()
            self.assert_is(contest, before)
            heads.clear()
            self.assert_is(contest, before)
            self.assertEqual(contest.matches(), matches)

    def test_two_contests_have_nothing_in_common(self):
        heads = some_heads(5)
        one = Contest(heads)
        other = Contest(heads)
        one.put(2, D)
        self.assert_is(other, heads)
        self.assertEqual((one.matches(), other.matches()), (4 + one.way(2), 4))
        other.put(2, D)
        self.assert_same((other.tree(), other.matches()), (one.tree(), one.matches()))


class TestNoPlace(Refusals, unittest.TestCase):
    def test_what_is_no_number_of_a_place(self):
        for many in MANY:
            contest = Contest(some_heads(many))
            before = (contest.tree(), contest.first(), contest.matches(), [contest.head(at) for at in range(many)])
            for thing in NO_NUMBERS + [-1, -many, many, many + 1, 33, FORTY, -FORTY]:
                with self.subTest(many=many, thing=thing):
                    self.assert_refused(NoPlace, contest.head, thing)
                    self.assert_refused(NoPlace, contest.way, thing)
                    self.assert_refused(NoPlace, contest.put, thing, D)
                    self.assert_refused(NoPlace, contest.put, thing, None)
            after = (contest.tree(), contest.first(), contest.matches(), [contest.head(at) for at in range(many)])
            self.assert_same(after, before)

    def test_true_and_false_are_no_places_though_there_are_two(self):
        contest = Contest([A, B])
        for thing in (True, False):
            self.assert_refused(NoPlace, contest.head, thing)
            self.assert_refused(NoPlace, contest.way, thing)
            self.assert_refused(NoPlace, contest.put, thing, None)
        self.assert_same((contest.tree(), contest.matches()), ((0, 0, 1), 1))


class TestTree(Refusals, unittest.TestCase):
    def test_told_trees(self):
        told = [
            ([A], 0),
            ([None], 0),
            ([A, C], (0, 0, 1)),
            ([C, A], (1, 0, 1)),
            ([None, A], (1, 0, 1)),
            ([A, None], (0, 0, 1)),
            ([None, None], (None, 0, 1)),
            ([A, B, C], (0, (0, 0, 1), 2)),
            ([C, B, A], (2, (1, 0, 1), 2)),
            ([None, None, A], (2, (None, 0, 1), 2)),
            ([B, A, None], (1, (1, 0, 1), 2)),
            ([C, A, A, B], (1, (1, 0, 1), (2, 2, 3))),
            ([None, None, B, A], (3, (None, 0, 1), (3, 2, 3))),
            ([B, A, None, None], (1, (1, 0, 1), (None, 2, 3))),
            ([None] * 4, (None, (None, 0, 1), (None, 2, 3))),
            ([C, B, A, D, B], (3, (2, (1, 0, 1), 2), (3, 3, 4))),
            ([None, None, None, A, A], (3, (None, (None, 0, 1), 2), (3, 3, 4))),
            ([A] * 7, (0, (0, (0, 0, 1), (2, 2, 3)), (4, (4, 4, 5), 6))),
            ([None] * 6 + [A], (6, (None, (None, 0, 1), (None, 2, 3)), (6, (None, 4, 5), 6))),
        ]
        for heads, tree in told:
            with self.subTest(heads=heads):
                contest = Contest(heads)
                self.assert_same(contest.tree(), tree)
                self.assert_same(contest.tree(), tree)
                self.assert_same(Contest(copy.deepcopy(heads)).tree(), tree)

    def test_of_32_places(self):
        for heads in (some_heads(32), [None] * 16 + [A] * 16, [A] * 16 + [None] * 16, [None] * 32):
            contest = Contest(heads)
            self.assert_same(contest.tree(), tree_by_hand(heads, 0, 32))
            self.assert_same(contest.tree(), tree_by_hand(heads, 0, 32))

    def test_behind_heads_put(self):
        contest = Contest([A, B, C])
        contest.put(0, None)
        self.assert_same(contest.tree(), (1, (1, 0, 1), 2))
        contest.put(1, None)
        self.assert_same(contest.tree(), (2, (None, 0, 1), 2))
        contest.put(2, None)
        self.assert_same(contest.tree(), (None, (None, 0, 1), 2))
        contest.put(1, C)
        self.assert_same(contest.tree(), (1, (1, 0, 1), 2))
        contest.put(2, A)
        self.assert_same(contest.tree(), (2, (1, 0, 1), 2))
        self.assert_same(contest.tree(), (2, (1, 0, 1), 2))


class TestMatches(Refusals, unittest.TestCase):
    def test_of_a_contest_just_made(self):
        for many in range(1, 33):
            self.assert_same(Contest([A] * many).matches(), many - 1)
            self.assert_same(Contest([None] * many).matches(), many - 1)

    def test_told_ways(self):
        told = {
            1: [0], 2: [1, 1], 3: [2, 2, 1], 4: [2] * 4, 5: [3, 3, 2, 2, 2], 6: [3, 3, 2, 3, 3, 2],
            7: [3, 3, 3, 3, 3, 3, 2], 8: [3] * 8, 32: [5] * 32,
        }
        for many, ways in told.items():
            contest = Contest([A] * many)
            self.assert_same([contest.way(place) for place in range(many)], ways)

    def test_all_ways(self):
        for many in range(1, 33):
            contest = Contest(some_heads(many))
            ways = ways_by_hand(contest.tree())
            self.assertEqual([contest.way(place) for place in range(many)], [ways[place] for place in range(many)])
            bound = 0
            while 2 ** bound < many:
                bound += 1
            self.assertLessEqual(max(ways.values()), bound)

    def test_each_head_put_counts_its_places_way(self):
        for many in range(1, 33):
            heads = some_heads(many)
            contest = Contest(heads)
            counted = many - 1
            for place in range(many):
                for head in (heads[place], D, D, None, None, A):
                    contest.put(place, head)
                    counted += contest.way(place)
                    self.assert_same(contest.matches(), counted)

    def test_what_is_told_counts_none_and_changes_none(self):
        for many in MANY:
            contest = Contest(some_heads(many))
            contest.put(many - 1, B)
            counted = contest.matches()
            wanted = (contest.first(), contest.tree())
            for place in range(many):
                contest.first()
                contest.head(place)
                contest.tree()
                contest.way(place)
                self.assert_same(contest.matches(), counted)
            self.assert_same((contest.first(), contest.tree()), wanted)


if __name__ == "__main__":
    unittest.main()
