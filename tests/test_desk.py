"""Promises [4], [5], [101], [102]: pourwright.desk, and that what it tells is what its parts tell."""

import unittest

from pourwright.choosing import chosen
from pourwright.desk import Desk
from pourwright.errors import NoDrives, NoLine, NoRoom, NoWidth, TooMany
from pourwright.goings import least_moved
from pourwright.items import far
from pourwright.layouts import level, level_for
from pourwright.loads import loads, natural
from pourwright.pours import pour
from pourwright.sorting import sort_on
from pourwright.texts import show_row
from pourwright.works import Work
from tests.helper import FORTY, NO_NUMBERS, ROWS, Refusals, nested, small_rows

ASKED = ("row", "sorted", "loads", "natural", "chosen", "far", "pour", "moved", "level", "sort", "deeds")
FRESH = {
    "row": "", "sorted": "", "loads": "none", "natural": "none", "chosen": "none", "far": "0", "pour": "", "moved": "0",
    "level": "0 1 0 0", "sort": "0 0 0", "deeds": "0",
}


def asked(desk, line):
    try:
        return desk.say(line)
    except TooMany:
        return "too many"


def told_of(desk):
    """All that a desk can be asked, and with it all that it keeps."""
    return [asked(desk, line) for line in ASKED]


def spread_settings(desk):
    """As told_of, for rows that tell each room, width and number of drives from another one."""
    before = asked(desk, "row")
    told = told_of(desk)
    desk.say("clear")
    desk.say("add " + " ".join(str(-key) for key in range(120)))
    told += [desk.say(line) for line in ("loads", "chosen", "moved", "level", "sort", "deeds")]
    desk.say("clear")
    if before:
        desk.say("add " + before)
    return told


def desk_of(row, room=3, width=2, drives=3):
    desk = Desk()
    if row:
        desk.say("add " + show_row(row))
    desk.say(f"room {room}")
    desk.say(f"width {width}")
    desk.say(f"drives {drives}")
    return desk


def shown(runs):
    return " | ".join(show_row(run) for run in runs) if runs else "none"


def numbers(*told):
    return " ".join(str(number) for number in told)


class TestLines(Refusals, unittest.TestCase):
    def test_a_fresh_desk(self):
        for line, answer in FRESH.items():
            self.assert_same(Desk().say(line), answer)
        desk = Desk()
        self.assert_same(told_of(desk), [FRESH[line] for line in ASKED])
        self.assert_same(Desk().say("clear"), "0")
        self.assert_same(Desk().say("add 1"), "1")
        for line in ("room 3", "width 2", "drives 3"):
            self.assert_same(Desk().say(line), "ok")

    def test_told(self):
        desk = Desk()
        for line, answer in [
            ("add 5", "1"), ("add 3:a 4 1", "4"), ("add 2 9 0", "7"), ("row", "5 3:a 4 1 2 9 0"),
            ("sorted", "0 1 2 3:a 4 5 9"), ("loads", "3:a 4 5 | 1 2 9 | 0"), ("natural", "5 | 3:a 4 | 1 2 9 | 0"),
            ("chosen", "3:a 4 5 9 | 0 1 2"), ("far", "6"), ("pour", "3 2 2 1 1 0 2"), ("moved", "7"),
            ("level", "1 1 1 0"), ("sort", "2 7 1"), ("deeds", "19"), ("room 1", "ok"), ("loads", "5 | 3:a | 4 | 1 | 2 | 9 | 0"),
            ("chosen", "5 | 3:a 4 | 1 2 9 | 0"), ("moved", "13"), ("level", "3 3 2 0"), ("sort", "4 15 3"),
            ("width 3", "ok"), ("moved", "9"), ("width 4", "ok"), ("moved", "7"), ("drives 4", "ok"),
            ("level", "2 2 2 1 0"), ("sort", "4 10 2"), ("drives 6", "ok"), ("level", "1 1 1 1 1 1 0"), ("sort", "4 7 1"),
            ("deeds", "23"), ("room 7", "ok"), ("chosen", "0 1 2 3:a 4 5 9"), ("loads", "0 1 2 3:a 4 5 9"),
            ("moved", "0"), ("level", "0 1 0 0 0 0 0"), ("sort", "1 0 0"), ("deeds", "8"), ("row", "5 3:a 4 1 2 9 0"),
            ("clear", "0"), ("row", ""), ("chosen", "none"), ("add -3:zz 7:abcdefgh", "2"), ("far", "0"),
            ("row", "-3:zz 7:abcdefgh"), ("natural", "-3:zz 7:abcdefgh"), ("pour", "0 0"), ("clear", "0"), ("clear", "0"),
        ]:
            with self.subTest(line=line):
                self.assert_same(desk.say(line), answer)

    def test_items_are_added_behind(self):
        desk = Desk()
        desk.say("add 2 1:a")
        desk.say("add 2")
        desk.say(f"add {FORTY}:zzzzzzzz -{FORTY} 0 0:a")
        self.assert_same(desk.say("row"), f"2 1:a 2 {FORTY}:zzzzzzzz -{FORTY} 0 0:a")
        self.assert_same(desk.say("add 7"), "8")

    def test_up_to_two_hundred(self):
        desk = Desk()
        self.assert_same(desk.say("add " + " ".join(["5"] * 200)), "200")
        self.assert_refused(TooMany, desk.say, "add 5")
        self.assert_same(desk.say("row"), " ".join(["5"] * 200))
        self.assert_same(desk.say("clear"), "0")
        for many in range(1, 201):
            self.assert_same(desk.say(f"add {many}"), str(many))
        for line in ("add 1", "add 1 2", "add " + " ".join(["5"] * 200), "add " + " ".join(["5"] * 201)):
            self.assert_refused(TooMany, desk.say, line)
        self.assert_same(desk.say("row"), " ".join(str(many) for many in range(1, 201)))

    def test_beyond_two_hundred_nothing_is_added(self):
        for there in (0, 1, 100, 199):
            desk = Desk()
            if there:
                desk.say("add " + " ".join(["5"] * there))
            before = spread_settings(desk)
            for more in (201 - there, 202 - there, 201):
                self.assert_refused(TooMany, desk.say, "add " + " ".join(["6"] * more))
            self.assert_same(spread_settings(desk), before)
            self.assert_same(desk.say("add " + " ".join(["6"] * (200 - there))), "200")

    def test_sixteen_natural_runs(self):
        desk = Desk()
        desk.say("add " + " ".join(str(-key) for key in range(16)))
        self.assert_same(desk.say("pour"), " ".join(str(run) for run in range(15, -1, -1)))
        desk.say("add 0 1 2")
        self.assertEqual(len(natural([(key, "") for key in list(range(0, -16, -1)) + [0, 1, 2]])), 16)
        self.assert_same(desk.say("pour"), "15 14 13 12 11 10 9 8 7 6 5 4 3 2 1 0 15 15 15")
        desk.say("add 1")
        before = [desk.say(line) for line in ASKED if line != "pour"]
        self.assert_refused(TooMany, desk.say, "pour")
        self.assert_same([desk.say(line) for line in ASKED if line != "pour"], before)
        desk.say("clear")
        self.assert_same(desk.say("pour"), "")


class TestParts(Refusals, unittest.TestCase):
    def assert_parts(self, row, room, width, drives):
        desk = desk_of(row, room, width, drives)
        runs = chosen(row, room)
        work = Work(row, room, width)
        while work.step() is not None:
            pass
        number = level_for(drives, len(runs))
        wanted = {
            "row": show_row(row), "sorted": show_row(sorted(row)), "loads": shown(loads(row, room)),
            "natural": shown(natural(row)), "chosen": shown(runs), "far": str(far(row)),
            "pour": numbers(*pour(natural(row))[1]) if len(natural(row)) <= 16 else "too many",
            "moved": str(least_moved([len(run) for run in runs], width)) if runs else "0",
            "level": numbers(number, *level(drives, number)), "sort": numbers(*sort_on(row, room, drives)[1:]),
            "deeds": str(work.deeds_done()),
        }
        for _ in range(2):
            for line in ASKED:
                self.assert_same(asked(desk, line), wanted[line])

    def test_small_rows(self):
        for row in small_rows(4):
            self.assert_parts(row, 1, 2, 3)
            self.assert_parts(row, 2, 3, 4)

    def test_rows_of_all_kinds(self):
        for name, row in ROWS.items():
            for room, width, drives in ((1, 2, 3), (1, 8, 6), (2, 3, 4), (3, 2, 3), (10, 4, 5), (50, 8, 6)):
                with self.subTest(name=name, room=room, width=width, drives=drives):
                    self.assert_parts(row, room, width, drives)

    def test_each_room_width_and_number_of_drives(self):
        row = [(place * 31 % 43, "") for place in range(60)]
        for room in range(1, 51):
            self.assert_parts(row, room, 2, 3)
        for width in range(2, 9):
            self.assert_parts(row, 2, width, 3)
        for drives in range(3, 7):
            self.assert_parts(row, 2, 2, drives)


class TestRefused(Refusals, unittest.TestCase):
    def desks(self):
        yield Desk()
        yield desk_of(ROWS["mixed"])
        yield desk_of(ROWS["up and down"], 1, 4, 5)
        yield desk_of(ROWS["great"], 7, 8, 6)

    def assert_lines_refused(self, kind, lines):
        for desk in self.desks():
            before = spread_settings(desk)
            for line in lines:
                with self.subTest(line=line):
                    self.assert_refused(kind, desk.say, line)
            self.assert_same(spread_settings(desk), before)

    def test_what_is_no_text(self):
        lines = [thing for thing in NO_NUMBERS if not isinstance(thing, str)]
        self.assert_lines_refused(NoLine, lines + [
            0, 1, FORTY, ["row"], ("row",), {"row": "row"}, ["add", "1"], ("add", "1"), [["row"]], [("room", 3)],
            nested("list", 9, "row"), ["clear"],
        ])

    def test_what_is_no_line(self):
        words = ASKED + ("clear",)
        lines = ["", " ", "  ", "\n", "\t", "x", "help", "rows", "ro", "rowrow", "none", "ok", "0", "1", "5 3", "len", "-"]
        for word in words:
            lines += [
                word.upper(), word.capitalize(), word[:-1], word + "s", word + ".", word + "\n",
                "\n" + word, "\t" + word, " " + word, word + " ", "  " + word, word + "  ", f"{word} {word}", f"{word} 1",
                f"1 {word}", f"{word} x", f"{word},", f"-{word}", f"add {word}", f"{word}\t", word + "\n" + word,
            ]
        self.assert_lines_refused(NoLine, [line for line in lines if line not in words])

    def test_lines_with_numbers(self):
        lines = []
        for word in ("room", "width", "drives"):
            lines += [word, word + " ", " " + word, f"{word}  3", f" {word} 3", f"{word} 3 ", f"{word} 3 3", f"{word} {word} 3",
                      f"{word} 3 {word}", f"{word.upper()} 3", f"{word.capitalize()} 3", f"{word}s 3", f"{word[:-1]} 3",
                      f"3 {word}", f"{word}3", f"{word}=3", f"{word}:3", f"{word}\t3", f"{word}\n3", f"{word} 3\n"]
            for number in ("03", "00", "-3", "-0", "-1", "+3", "3.0", "3:a", "3:", "x", "three", "3x", "0x3", "1e1", " ", "3,",
                           "1" * 41, "1" + "0" * 40, "0" * 40, "0" * 41, "3_0", "(3)", "-", ":", "None", "True", "-" + "1" * 40):
                lines.append(f"{word} {number}")
        self.assert_lines_refused(NoLine, lines)

    def test_items_that_are_none(self):
        lines = ["add", "add ", "add  ", "add  1", " add 1", "add 1 ", "add 1  2", "Add 1", "ADD 1", "adds 1", "ad 1", "add\t1",
                 "add\n1", "add 1\n", "add1", "1", "1 add", "add add 1", "row 1", "1 2 3"]
        for item in ("01", "-0", "+1", "1:", ":", ":a", "1:A", "1:a1", "1:abcdefghi", "1:a:b", "a", "a:1", "--1", "-", "1.0", "1,2",
                     "1-", "0:", "00", "-01", "1" * 41, "-" + "1" * 41, "1:a ", "(1,)", "None", "|", "1:ab_", "1:-"):
            lines += [f"add {item}", f"add 1 {item}", f"add {item} 1", f"add 1 {item} 2:a"]
        # What writes no item is told ahead of how many there would be.
        lines += ["add " + " ".join(["1"] * 200 + ["x"]), "add x " + " ".join(["1"] * 200), "add " + " ".join(["1"] * 250 + ["01"])]
        self.assert_lines_refused(NoLine, lines)

    def test_a_bad_item_of_a_full_desk(self):
        desk = Desk()
        desk.say("add " + " ".join(["1"] * 200))
        self.assert_refused(NoLine, desk.say, "add x")
        self.assert_refused(NoLine, desk.say, "add 1 01")
        self.assert_refused(TooMany, desk.say, "add 1")
        self.assert_same(desk.say("row"), " ".join(["1"] * 200))

    def test_numbers_that_are_written_well(self):
        great = ["51", "100", "1" * 40, "9" * 40]
        self.assert_lines_refused(NoRoom, [f"room {number}" for number in ["0"] + great])
        self.assert_lines_refused(NoWidth, [f"width {number}" for number in ["0", "1", "9", "10"] + great])
        self.assert_lines_refused(NoDrives, [f"drives {number}" for number in ["0", "1", "2", "7", "8"] + great])

    def test_kept_from_then_on(self):
        desk = desk_of(ROWS["great and falling"], 4, 3, 5)
        before = told_of(desk)
        self.assert_refused(NoRoom, desk.say, "room 0")
        self.assert_refused(NoWidth, desk.say, "width 9")
        self.assert_refused(NoDrives, desk.say, "drives 2")
        self.assert_same(told_of(desk), before)
        desk.say("clear")
        desk.say("add " + show_row(ROWS["great and falling"]))
        self.assert_same(told_of(desk), before)
        desk.say("room 5")
        self.assertNotEqual(told_of(desk), before)
        desk.say("room 4")
        self.assert_same(told_of(desk), before)


class TestTwoDesks(Refusals, unittest.TestCase):
    def test_nothing_in_common(self):
        one, other = Desk(), Desk()
        one.say("add 3 1 2")
        one.say("room 1")
        one.say("width 5")
        one.say("drives 6")
        self.assert_same(told_of(other), [FRESH[line] for line in ASKED])
        self.assert_same(spread_settings(other), spread_settings(Desk()))
        self.assert_same(told_of(Desk()), [FRESH[line] for line in ASKED])
        other.say("add 9")
        self.assert_same(one.say("row"), "3 1 2")
        one.say("clear")
        self.assert_same(other.say("row"), "9")

    def test_led_alike_they_tell_alike(self):
        lines = ["add 5 4 3:a", "room 2", "chosen", "add 1", "pour", "drives 4", "width 3", "clear", "add 7 6 5 4 3 2 1"]
        one, other = Desk(), Desk()
        for line in lines:
            self.assert_same(one.say(line), other.say(line))
            self.assert_same(told_of(one), told_of(other))
            self.assert_same(told_of(one), told_of(other))


if __name__ == "__main__":
    unittest.main()
