"""Promises [3], [4], [5], [13]: pourwright.texts."""

import unittest

from pourwright.errors import NoRow
from pourwright.texts import read_row, show_row
from tests.helper import FORTY, NO_NUMBERS, ROWS, Refusals

WRITTEN = {
    "": [],
    "0": [(0, "")],
    "7": [(7, "")],
    "-7": [(-7, "")],
    "10": [(10, "")],
    "-10": [(-10, "")],
    "100": [(100, "")],
    "0:a": [(0, "a")],
    "0:z": [(0, "z")],
    "5:abcdefgh": [(5, "abcdefgh")],
    "-5:zzzzzzzz": [(-5, "zzzzzzzz")],
    "9" * 40: [(FORTY, "")],
    "-" + "9" * 40: [(-FORTY, "")],
    "1" + "0" * 39: [(10 ** 39, "")],
    "-1" + "0" * 39 + ":abcdefgh": [(-10 ** 39, "abcdefgh")],
    "1 2": [(1, ""), (2, "")],
    "2:b 2:b 1 -3:x 0": [(2, "b"), (2, "b"), (1, ""), (-3, "x"), (0, "")],
    " ".join(["-1:ab"] * 200): [(-1, "ab")] * 200,
}

NO_WORDS = [
    "", "00", "01", "007", "-0", "-00", "-01", "-0:a", "00:a", "01:a", "-", "--1", "-:a", "+1", "+0", "1-", "1-2", "- 1",
    ":", ":a", "1:", "0:", "-1:", "1::", "1::a", "1:a:", "1:a:b", "::", "1:abcdefghi", "1:A", "1:aB", "1:Ab", "1:1",
    "1:a1", "1:1a", "1:-", "1:a-b", "1:+", "a", "a:1", "A", "1a", "a1", "1.0", "1.", ".5", "1,", "1,2", "1_0", "_1", "1_",
    "1:_", "1:a_b", "1e3", "0x1", "0b1", "1:a\n", "1\n", "\n1", "\n", "1:\n", "1\t", "\t1", "\t", "1:a\t", "1\r", "1\x0b",
    "1\x0c", "1\x00", "\x00", "1:a\x00", "1\n2", "1\t2", "(1,", "1;", "1:a;", "1/2", "1*", "#", "|", "1:{", "1:`", "1:@",
    "1:[", "None", "True", "none", "1" + "0" * 40, "9" * 41, "-" + "9" * 41, "-1" + "0" * 40, "9" * 41 + ":a",
    "-" + "9" * 41 + ":a", "0" * 40, "0" * 41, "9" * 400,
]


class TestShowRow(unittest.TestCase):
    def test_what_is_written(self):
        for text, row in WRITTEN.items():
            with self.subTest(text=text):
                self.assertEqual(show_row(row), text)
                self.assertIs(show_row(row).__class__, str)

    def test_the_tag_is_written_just_where_it_has_a_sign(self):
        for key in (0, 1, -1, 10, FORTY, -FORTY):
            self.assertEqual(show_row([(key, "")]), str(key))
            for tag in ("a", "zz", "abcdefgh"):
                self.assertEqual(show_row([(key, tag)]), f"{key}:{tag}")


class TestReadRow(Refusals, unittest.TestCase):
    def test_what_is_read(self):
        for text, row in WRITTEN.items():
            with self.subTest(text=text):
                self.assert_same(read_row(text), row)

    def test_what_was_written_is_read_to_the_same_row(self):
        for name, row in ROWS.items():
            with self.subTest(name=name):
                self.assert_same(read_row(show_row(row)), row)

    def test_keys_of_each_length(self):
        for many in range(1, 41):
            for sign in ("", "-"):
                for figures in ("9" * many, "1" + "0" * (many - 1)):
                    self.assert_same(read_row(sign + figures), [(int(sign + figures), "")])

    def test_tags_of_each_length(self):
        for many in range(1, 9):
            self.assert_same(read_row("3:" + "k" * many), [(3, "k" * many)])

    def test_what_is_no_text(self):
        for thing in NO_NUMBERS + [0, 1, -1, FORTY, ["1"], ("1", "2"), [(1, "a")], {"1": "1"}]:
            if not isinstance(thing, str):
                with self.subTest(thing=thing):
                    self.assert_refused(NoRow, read_row, thing, at=0)

    def test_words_that_write_no_item(self):
        for word in NO_WORDS:
            with self.subTest(word=word):
                if word != "":
                    self.assert_refused(NoRow, read_row, word, at=0)
                for ahead in (1, 2, 150, 199):
                    self.assert_refused(NoRow, read_row, " ".join(["1:a"] * ahead + [word]), at=ahead)
                self.assert_refused(NoRow, read_row, word + " 1", at=0)
                self.assert_refused(NoRow, read_row, "1 2:b " + word + " 3 4:d", at=2)

    def test_each_sign_by_itself_and_beside_others(self):
        for number in range(128):
            sign = chr(number)
            if sign not in " 0123456789":
                for word in (sign, "1" + sign, "1" + sign + "1", "1:a" + sign + "1"):
                    self.assert_refused(NoRow, read_row, "5 " + word, at=1)
            if sign != " " and not "a" <= sign <= "z":
                for word in ("1:" + sign, "1:a" + sign, "1:" + sign + "a", "1:a" + sign + "b"):
                    self.assert_refused(NoRow, read_row, "5 " + word, at=1)

    def test_blanks(self):
        told = {
            " ": 0, "  ": 0, " 1": 0, "1 ": 1, "1  2": 1, "1 2  3": 2, "1 2 ": 2, " 1 ": 0, "1  ": 1, "  1": 0,
            "1:a  x": 1, "1 2 3   4": 3,
        }
        for text, at in told.items():
            with self.subTest(text=text):
                self.assert_refused(NoRow, read_row, text, at=at)

    def test_the_two_hundred_and_first_word(self):
        for many in (201, 202, 300, 1000):
            self.assert_refused(NoRow, read_row, " ".join(["1:a"] * many), at=200)
        full = " ".join(["1"] * 200)
        for word in NO_WORDS + ["0", "1:a"]:
            self.assert_refused(NoRow, read_row, full + " " + word, at=200)
        self.assert_same(read_row(full), [(1, "")] * 200)

    def test_the_first_of_several_wrong_words(self):
        self.assert_refused(NoRow, read_row, "1 x 2 y z", at=1)
        self.assert_refused(NoRow, read_row, "x y", at=0)
        self.assert_refused(NoRow, read_row, "1 2 3 -0 01 :", at=3)
        for at in (0, 1, 100, 199):
            words = ["1"] * 230
            words[at] = "01"
            words[201] = "x"
            self.assert_refused(NoRow, read_row, " ".join(words), at=at)


class TestNothingIsChanged(Refusals, unittest.TestCase):
    def test_shown(self):
        for row in ROWS.values():
            self.assert_own(show_row, list(row))

    def test_read(self):
        for text in WRITTEN:
            self.assert_own(read_row, text)

    def test_what_was_refused_before_changes_nothing(self):
        self.assert_refused(NoRow, read_row, "1 x", at=1)
        self.assert_same(read_row("1"), [(1, "")])
        self.assert_same(read_row(""), [])


if __name__ == "__main__":
    unittest.main()
