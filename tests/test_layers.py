"""Promises [4], [7], [76], [77]: pourwright.layers."""

import copy
import functools
import unittest

from pourwright.layers import are_layers, fewest_phases, layers
from pourwright.layouts import led, level, phases_from
from tests.helper import FORTY, NO_NUMBERS, Refusals, layouts_of, nested, phases_by_hand

SOME = [
    (1, 0, 0), (0, 0, 1), (0, 0, 0), (0, 2, 0), (1, 1, 1), (1, 1, 0), (0, 2, 1), (3, 2, 0), (5, 3, 0), (4, 0, 5), (2, 2, 0),
    (1, 0, 0, 0), (0, 0, 0, 0), (1, 1, 1, 0), (2, 2, 1, 0), (4, 3, 2, 0), (0, 0, 2, 1), (1, 1, 1, 1), (3, 0, 3, 3),
    (0, 1, 0, 8),
]


def all_layouts():
    yield from layouts_of(3, 9)
    yield from layouts_of(4, 9)


@functools.lru_cache(maxsize=None)
def led_to_by_hand(layout):
    return frozenset(told for phase, told in phases_by_hand(layout))


def layers_by_hand(layout):
    told = [{layout}]
    while not any(sum(one) == 1 for one in told[-1]):
        new = set().union(*[led_to_by_hand(one) for one in told[-1]]) - set().union(*told)
        if not new:
            break
        told.append(new)
    return [sorted(layer) for layer in told]


class TestLayers(Refusals, unittest.TestCase):
    def test_told(self):
        told = [
            ((1, 0, 0), [[(1, 0, 0)]]),
            ((0, 0, 0), [[(0, 0, 0)]]),
            ((1, 1, 1), [[(1, 1, 1)]]),
            ((0, 2, 0), [[(0, 2, 0)]]),
            ((1, 1, 0), [[(1, 1, 0)], [(0, 0, 1)]]),
            ((2, 1, 0), [[(2, 1, 0)], [(1, 0, 1)], [(0, 1, 0)]]),
            ((2, 2, 0), [[(2, 2, 0)], [(0, 0, 2), (1, 1, 1)]]),
            ((3, 2, 0), [[(3, 2, 0)], [(1, 0, 2), (2, 1, 1)], [(0, 1, 1)], [(1, 0, 0)]]),
            ((1, 1, 1, 0), [[(1, 1, 1, 0)], [(0, 0, 0, 1), (0, 0, 1, 1), (0, 1, 0, 1), (1, 0, 0, 1)]]),
            ((0, 0, 1, 1), [[(0, 0, 1, 1)], [(0, 1, 0, 0), (1, 0, 0, 0)]]),
        ]
        for layout, wanted in told:
            with self.subTest(layout=layout):
                self.assert_same(layers(layout), wanted)

    def test_held_against_a_walk(self):
        for layout in all_layouts():
            self.assert_same(layers(layout), layers_by_hand(layout))

    def test_own(self):
        for layout in SOME:
            self.assert_own(layers, layout)


class TestFewestPhases(Refusals, unittest.TestCase):
    def test_told(self):
        told = [
            ((1, 0, 0), []), ((0, 0, 1), []), ((0, 0, 0, 1), []), ((0, 0, 0), None), ((0, 0, 0, 0), None),
            ((1, 1, 1), None), ((2, 0, 0), None), ((9, 0, 0), None), ((2, 2, 0), None), ((1, 1, 0), [(2, (0, 1), 1)]),
            ((2, 1, 0), [(2, (0, 1), 1), (1, (0, 2), 1)]), ((1, 1, 1, 1), None),
            ((1, 1, 1, 0), [(3, (0, 1, 2), 1)]),
        ]
        for layout, phases in told:
            with self.subTest(layout=layout):
                self.assert_same(fewest_phases(layout), phases)

    def test_as_short_as_any(self):
        for layout in all_layouts():
            phases = fewest_phases(layout)
            walked = layers_by_hand(layout)
            if not any(sum(one) == 1 for one in walked[-1]):
                self.assertIsNone(phases, layout)
                continue
            self.assertIs(phases.__class__, list)
            self.assertEqual(len(phases), len(walked) - 1, layout)
            now = layout
            for phase in phases:
                self.assertIn(phase, dict(phases_by_hand(now)))
                self.assert_same(led(now, phase), dict(phases_by_hand(now))[phase])
                now = led(now, phase)
            self.assertEqual(sum(now), 1)

    def test_never_more_than_from_a_level(self):
        for drives, most in ((3, 4), (4, 3)):
            for number in range(most + 1):
                self.assertEqual(len(fewest_phases(level(drives, number))), len(phases_from(level(drives, number))))

    def test_own(self):
        for layout in SOME:
            self.assert_own(fewest_phases, layout)


class TestAreLayers(Refusals, unittest.TestCase):
    def none(self, thing, layout):
        self.assertIs(are_layers(thing, layout), False, (thing, layout))

    def test_of_the_layers(self):
        for layout in all_layouts():
            self.assertIs(are_layers(layers_by_hand(layout), layout), True)

    def test_a_layout_changed(self):
        for layout in SOME:
            right = layers_by_hand(layout)
            for at, layer in enumerate(right):
                def changed(new):
                    return right[:at] + [new] + right[at + 1:]
                for place, one in enumerate(layer):
                    behind = layer[place + 1:]
                    self.none(changed(layer[:place] + behind), layout)
                    self.none(changed(layer[:place] + [one, one] + behind), layout)
                    self.none(changed(layer[:place] + [list(one)] + behind), layout)
                    self.none(changed(layer[:place] + [one[:-1]] + behind), layout)
                    self.none(changed(layer[:place] + [one + (0,)] + behind), layout)
                    self.none(changed(layer[:place] + [one[::-1] + (1,)] + behind), layout)
                    self.none(changed(layer[:place] + [(one[0] + 1,) + one[1:]] + behind), layout)
                    self.none(changed(layer[:place] + [tuple(str(number) for number in one)] + behind), layout)
                    for other in (None, "", 0, True, (), [], {}, str(one), {0: one}, (one,), [one]):
                        self.none(changed(layer[:place] + [other] + behind), layout)
                        self.none(changed(layer[:place] + [other] + layer[place:]), layout)
                    for spot, number in enumerate(one):
                        if number < 2:
                            truth = one[:spot] + (bool(number),) + one[spot + 1:]
                            self.none(changed(layer[:place] + [truth] + behind), layout)
                for other in ((9, 9, 9), (0, 0, 0, 7), (0,) * len(layout)):
                    if other not in layer:
                        self.none(changed(layer + [other]), layout)
                        self.none(changed(sorted(layer + [other])), layout)
                if len(layer) > 1:
                    self.none(changed(layer[::-1]), layout)
                    self.none(changed(layer[1:] + layer[:1]), layout)
                self.none(changed(tuple(layer)), layout)
                self.none(changed({one: True for one in layer}), layout)
                self.none(changed([]), layout)
                self.none(changed([layer]), layout)
                self.none(changed(None), layout)

    def test_a_layer_changed(self):
        for layout in SOME:
            right = layers_by_hand(layout)
            for at in range(len(right)):
                self.none(right[:at] + right[at + 1:], layout)
                self.none(right[:at] + [right[at]] + right[at:], layout)
            for at in range(len(right) + 1):
                self.none(right[:at] + [[]] + right[at:], layout)
                self.none(right[:at] + [[(0, 0, 0)]] + right[at:], layout)
            if len(right) > 1:
                self.none(right[::-1], layout)
            self.none(tuple(right), layout)
            self.none([tuple(layer) for layer in right], layout)
            self.none(sum(right, []), layout)
            self.none(right + [sorted({told for one in right[-1] for told in led_to_by_hand(one)})], layout)
            self.none({at: layer for at, layer in enumerate(right)}, layout)

    def test_the_layers_of_another_layout(self):
        for layout in SOME:
            for other in SOME:
                self.assertIs(are_layers(layers_by_hand(other), layout), layout == other)

    def test_things_of_other_kinds(self):
        for layout in SOME:
            for thing in NO_NUMBERS + [
                0, 1, -1, FORTY, layout, [layout], (layout,), [[list(layout)]], {layout: []}, {layout: True}, str(layout),
                [None], [[None]], [[]], [[], []], [[[]]], nested("list", 9), [nested("list", 8)], [[nested("tuple", 7)]],
            ]:
                self.none(thing, layout)

    def test_own(self):
        for layout in ((1, 1, 0), (3, 2, 0)):
            for thing in (layers_by_hand(layout), [[list(layout)]], [], {0: [1]}, None):
                self.assert_own(are_layers, copy.deepcopy(thing), layout)


if __name__ == "__main__":
    unittest.main()
