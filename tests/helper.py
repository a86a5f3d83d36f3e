"""What several tests need: things of many kinds, rows of many kinds, and how a refusal is looked at."""

import copy
import itertools

from pourwright import errors

FORTY = 10 ** 40 - 1

ERRORS = [
    thing for thing in vars(errors).values()
    if isinstance(thing, type) and issubclass(thing, errors.PourError) and thing is not errors.PourError
]


def nested(kind, depth, thing=0):
    for _ in range(depth):
        thing = [thing] if kind == "list" else (thing,) if kind == "tuple" else {"a": thing}
    return thing


# None of these is a whole number; some look like one, or hold one.
NO_NUMBERS = [
    None, True, False, "", "0", "1", "2", "a", " ", "1:a", "-1", "3.0", [], [0], [1], [2, 3], (), (0,), (1,), (2, 3),
    {}, {0: 0}, {1: 1}, {"room": 3}, [None], (True,), (1, "a"), [(1, "a")],
    nested("list", 10), nested("tuple", 10), nested("dict", 10),
]
GREAT_NUMBERS = [51, 52, 100, 201, FORTY, -1, -2, -3, -50, -FORTY]
NO_ROOMS = [0] + GREAT_NUMBERS + NO_NUMBERS
NO_WIDTHS = [1, 9, 0, 10] + GREAT_NUMBERS + NO_NUMBERS
NO_DRIVES = [2, 7, 0, 1, 8, 10] + GREAT_NUMBERS + NO_NUMBERS

ROWS = {
    "none": [],
    "one": [(5, "a")],
    "two rising": [(1, ""), (2, "")],
    "two falling": [(2, ""), (1, "")],
    "alike": [(1, "a")] * 5,
    "rising": [(-2, ""), (0, ""), (0, "a"), (0, "b"), (7, ""), (8, ""), (8, "")],
    "falling": [(4, ""), (3, "b"), (3, "a"), (1, ""), (-1, ""), (-1, ""), (-5, "q")],
    "falling by tags": [(1, "c"), (1, "b"), (1, "a"), (1, "")],
    "falls at the start": [(2, ""), (1, ""), (3, ""), (4, "")],
    "falls at the end": [(1, ""), (2, ""), (4, ""), (3, "")],
    "up and down": [(1, ""), (9, ""), (2, ""), (8, ""), (3, ""), (7, ""), (4, ""), (6, ""), (5, "")],
    "mixed": [(3, "c"), (1, ""), (3, "a"), (1, ""), (3, "c"), (-FORTY, "q"), (FORTY, ""), (0, ""), (3, "b")],
    "great": [(place * 77 % 67 - 30, "abc"[place % 3]) for place in range(200)],
    "great and far": [(place * 149 % 211, "") for place in range(200)],
    "great and rising": [(place // 2, "") for place in range(200)],
    "great and falling": [(-(place // 2), "") for place in range(200)],
}


def small_rows(most, kinds=((0, ""), (0, "a"), (1, ""))):
    for many in range(most + 1):
        for row in itertools.product(kinds, repeat=many):
            yield list(row)


def layouts_of(drives, most, least=0):
    """Every layout of so many drives with so many runs."""
    for layout in itertools.product(range(most + 1), repeat=drives):
        if least <= sum(layout) <= most:
            yield layout


def phases_by_hand(layout):
    """[71], word by word: every phase of a layout, with the layout to which it leads."""
    drives = range(len(layout))
    for target in drives:
        for many in range(2, len(layout)):
            for sources in itertools.combinations([drive for drive in drives if drive != target], many):
                least = min(layout[drive] for drive in sources)
                for times in range(1, least + 1 if layout[target] == 0 else 1):
                    told = [runs - times * (drive in sources) + times * (drive == target)
                            for drive, runs in enumerate(layout)]
                    yield (target, sources, times), tuple(told)


def by_hand_rises(row):
    return all(one <= other for one, other in zip(row, row[1:]))


class Refusals:
    """Beside unittest.TestCase: what is asked of each refusal."""

    def assert_refused(self, kind, call, *handed, **fields):
        before = copy.deepcopy(handed)
        with self.assertRaises(kind) as caught:
            call(*handed)
        error = caught.exception
        self.assertIs(error.__class__, kind)
        self.assertIsInstance(error, errors.PourError)
        self.assertIsInstance(error, ValueError)
        self.assertEqual([one for one in ERRORS if isinstance(error, one)], [kind])
        for name, value in fields.items():
            self.assert_same(getattr(error, name), value)
        self.assert_same(list(handed), list(before))

    def assert_same(self, told, wanted):
        # 1 == True to Python, so what is told is looked at by its kinds too.
        self.assertEqual(repr(told), repr(wanted))

    def assert_own(self, call, *handed):
        """Asked twice, both answers are alike and new, what was handed in stays; later changes reach nothing."""
        before = copy.deepcopy(handed)
        told = call(*handed)
        wanted = copy.deepcopy(told)
        again = call(*handed)
        self.assert_same(list(handed), list(before))
        self.assert_same(again, wanted)
        self.assert_same(call(*copy.deepcopy(handed)), wanted)
        shared = places(told) & (places(again) | places(handed))
        self.assertEqual(shared, set())
        self.assertEqual(len(places(told)), count(told))
        spoil(told)
        self.assert_same(list(handed), list(before))
        self.assert_same(again, wanted)
        self.assert_same(call(*handed), wanted)
        spoil(handed)
        self.assert_same(again, wanted)


def parts(thing):
    return list(thing.values()) if isinstance(thing, dict) else list(thing)


def places(thing):
    """Where the lists and dicts lie of which a thing is made."""
    if not isinstance(thing, (list, tuple, dict)):
        return set()
    told = set() if isinstance(thing, tuple) else {id(thing)}
    return told.union(*[places(part) for part in parts(thing)])


def count(thing):
    if not isinstance(thing, (list, tuple, dict)):
        return 0
    return (0 if isinstance(thing, tuple) else 1) + sum(count(part) for part in parts(thing))


def spoil(thing):
    if isinstance(thing, (list, tuple, dict)):
        for part in parts(thing):
            spoil(part)
    if isinstance(thing, list):
        thing.reverse()
        thing.append("spoiled")
    if isinstance(thing, dict):
        thing["spoiled"] = True
