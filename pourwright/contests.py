"""A contest of heads: who is first, found by a tree of matches that are counted."""

from pourwright.bounds import is_below
from pourwright.errors import NoPlace
from pourwright.items import less


def midst(start, behind):
    # Where the places are odd, the left side has one more.
    return start + (behind - start + 1) // 2


def stretches_above(place, many):
    # Those of more than one place that have this place, the greatest one first.
    told = []
    start = 0
    behind = many
    while behind - start > 1:
        told.append((start, behind))
        middle = midst(start, behind)
        if place < middle:
            behind = middle
        else:
            start = middle
    return told


class Contest:
    def __init__(self, heads):
        self.heads = list(heads)
        self.winners = {}
        self.played = 0
        self.play_all(0, len(self.heads))

    def first(self):
        return self.winner(0, len(self.heads))

    def head(self, place):
        self.check_place(place)
        return self.heads[place]

    def put(self, place, head):
        self.check_place(place)
        self.heads[place] = head
        # A match asks who won on both its sides, so the smallest stretch is played first.
        for start, behind in reversed(stretches_above(place, len(self.heads))):
            self.play(start, behind)

    def tree(self):
        return self.branch(0, len(self.heads))

    def matches(self):
        return self.played

    def way(self, place):
        self.check_place(place)
        return len(stretches_above(place, len(self.heads)))

    def check_place(self, thing):
        if not is_below(thing, len(self.heads)):
            raise NoPlace("this is no number of a place")

    def play_all(self, start, behind):
        if behind - start > 1:
            middle = midst(start, behind)
            self.play_all(start, middle)
            self.play_all(middle, behind)
            self.play(start, behind)

    def play(self, start, behind):
        middle = midst(start, behind)
        self.winners[(start, behind)] = self.better(self.winner(start, middle), self.winner(middle, behind))
        self.played += 1

    def winner(self, start, behind):
        if behind - start > 1:
            return self.winners[(start, behind)]
        # One place, or none at all in a contest without places.
        alone = [place for place in range(start, behind) if self.heads[place] is not None]
        return alone[0] if alone else None

    def better(self, left, right):
        if left is None or right is None:
            return right if left is None else left
        # Of alike heads that on the left is first: its place is the lesser one.
        return right if less(self.heads[right], self.heads[left]) else left

    def branch(self, start, behind):
        if behind - start <= 1:
            return start
        middle = midst(start, behind)
        return (self.winner(start, behind), self.branch(start, middle), self.branch(middle, behind))
