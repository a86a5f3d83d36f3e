"""Promise [5] and the interface of pourwright.errors."""

import copy
import unittest

from pourwright import errors
from pourwright.errors import PourError

OF_A_TEXT = (
    "NoRoom", "NoWidth", "NoDrives", "NoPlace", "NoDrive",
    "NoPhase", "NoShelf", "NoLine", "TooMany",
)
WITH_FIELDS = {
    "NoRow": ("at",),
    "NotRising": ("at",),
    "NoTrace": ("word", "at"),
    "Bare": ("drive",),
}
VALUES = {"at": 3, "word": "form", "drive": 2}


def made(name):
    if name in OF_A_TEXT:
        return getattr(errors, name)("some words")
    return getattr(errors, name)(*[VALUES[field] for field in WITH_FIELDS[name]])


class TestErrors(unittest.TestCase):
    def names(self):
        return OF_A_TEXT + tuple(WITH_FIELDS)

    def test_pour_error_stands_straight_under_value_error(self):
        self.assertEqual(PourError.__bases__, (ValueError,))

    def test_each_class_stands_straight_under_pour_error(self):
        for name in self.names():
            with self.subTest(name=name):
                self.assertEqual(getattr(errors, name).__bases__, (PourError,))

    def test_no_class_stands_under_another_one(self):
        for name in self.names():
            for other in self.names():
                if name != other:
                    with self.subTest(name=name, other=other):
                        self.assertFalse(issubclass(getattr(errors, name), getattr(errors, other)))

    def test_each_name_is_a_class_of_its_own(self):
        classes = [getattr(errors, name) for name in self.names()]
        self.assertEqual(len(set(classes)), 13)
        for name in self.names():
            self.assertEqual(getattr(errors, name).__name__, name)

    def test_made_of_a_text(self):
        for name in OF_A_TEXT:
            with self.subTest(name=name):
                self.assertEqual(str(made(name)), "some words")
        self.assertEqual(str(PourError("some words")), "some words")

    def test_fields_are_kept(self):
        for name, fields in WITH_FIELDS.items():
            error = made(name)
            for field in fields:
                with self.subTest(name=name, field=field):
                    self.assertEqual(getattr(error, field), VALUES[field])

    def test_fields_are_taken_in_their_order_and_by_name(self):
        error = errors.NoTrace("empty", 0)
        self.assertEqual((error.word, error.at), ("empty", 0))
        error = errors.NoTrace(at=7, word="more")
        self.assertEqual((error.word, error.at), ("more", 7))
        self.assertEqual(errors.NoRow(at=0).at, 0)
        self.assertEqual(errors.NotRising(at=0).at, 0)
        self.assertEqual(errors.Bare(drive=0).drive, 0)

    def test_fields_belong_to_each_object(self):
        one = errors.NoTrace("form", 1)
        other = errors.NoTrace("order", 2)
        self.assertEqual((one.word, one.at), ("form", 1))
        self.assertEqual((other.word, other.at), ("order", 2))

    def test_fields_must_be_told(self):
        for name in WITH_FIELDS:
            with self.subTest(name=name):
                with self.assertRaises(TypeError):
                    getattr(errors, name)()

    def test_a_copy_has_the_same_fields(self):
        for name, fields in WITH_FIELDS.items():
            error = copy.copy(made(name))
            for field in fields:
                with self.subTest(name=name, field=field):
                    self.assertEqual(getattr(error, field), VALUES[field])

    def test_raised_and_taken(self):
        for name in self.names():
            for taken in (getattr(errors, name), PourError, ValueError):
                with self.subTest(name=name, taken=taken):
                    with self.assertRaises(taken) as caught:
                        raise made(name)
                    self.assertIs(caught.exception.__class__, getattr(errors, name))


if __name__ == "__main__":
    unittest.main()
