"""Points 2 and 24: the desk and its orders."""

import unittest

from helper import ChamberTest
from moot.desk import Desk
from moot.errors import (
    Barred, NoAside, NoChange, NoFit, NoMatter, NoName, NoNumber, NoRow, Nothing, NotLater, NotYet, TooMany,
)

# All eleven kinds of deeds, and what the desk answers.
STORY = [
    ("matter / the old hall / is kept", "1"), ("change turn 0 a new hall", "2"), ("mend turn 1 newer", "3"),
    ("vote 3 2", "kept"), ("put off 2", "4"), ("vote 1 0", "kept"), ("matter", "5"), ("close", "6"),
    ("vote 2 1", "kept"), ("lay", "7"), ("point of order", "8"), ("drop", "dropped"), ("vote 1 0", "kept"),
    ("rest", "9"), ("vote 5 0", "kept"), ("take 1", "1"), ("vote 1 1", "lost"), ("point", "10"),
]
ROWS = [row for row, told in STORY]


def desk_with(*texts):
    desk = Desk()
    for text in texts:
        desk.say(text)
    return desk


def desk_behind(rows, name="north", seats=5):
    return desk_with(f"open {name} {seats}", *[f"do {name} {row}" for row in rows])


class DeskTest(ChamberTest):

    def told(self, desk, names=("north", "south")):
        """All that the desk tells of chambers by these names, or that there is none."""
        told = []
        for name in names:
            for order in ("order", "state", "minutes"):
                try:
                    told.append(desk.say(f"{order} {name}"))
                except NoName:
                    told.append(None)
        return told

    def assert_desk_refuses(self, desk, refusal, value, text):
        with self.subTest(text=text):
            before = self.told(desk)
            self.assert_refused(refusal, value, desk.say, text)
            self.assert_same(self.told(desk), before)


class TestOrders(DeskTest):

    def test_open(self):
        for name in ("a", "z", "north", "abcdefghijkl", "open", "order", "matter"):
            for seats in ("1", "2", "10", "999999999", "1000000000"):
                with self.subTest(name=name, seats=seats):
                    desk = Desk()
                    self.assert_same(desk.say(f"open {name} {seats}"), "ok")
                    self.assert_same(desk.say(f"order {name}"), "matter, rest, point")
                    desk.say(f"do {name} point")
                    self.assert_desk_refuses(desk, TooMany, None, f"do {name} vote {seats} 1")
                    self.assert_same(desk.say(f"do {name} vote {seats} 0"), "kept")

    def test_do(self):
        desk = desk_with("open north 5")
        for row, told in STORY:
            with self.subTest(row=row):
                self.assert_same(desk.say("do north " + row), told)

    def test_numbers_as_figures(self):
        desk = desk_behind(["point", "drop"] * 120)
        self.assert_same(desk.say("do north point"), "121")

    def test_order(self):
        desk = Desk()
        desk.say("open north 5")
        for row, told in [
            ("matter / a", "change, put off, close, lay, rest, point"),
            ("change put 0 b", "mend, put off, close, lay, rest, point"), ("close", "lay, rest, point"),
            ("vote 1 0", "lay, rest, point"), ("lay", "rest, point"), ("rest", "point"), ("point", ""),
        ]:
            desk.say("do north " + row)
            with self.subTest(row=row):
                self.assert_same(desk.say("order north"), told)

    def test_state(self):
        desk = desk_with("open north 5")
        self.assert_same(desk.say("state north"), "0 0 0")
        for row, told in [
            ("matter / a", "1 0 0"), ("change put 0 b", "2 0 0"), ("mend cut 0", "3 0 0"), ("vote 1 0", "2 0 1"),
            ("lay", "3 0 1"), ("vote 1 0", "0 2 2"), ("matter", "1 2 2"), ("close", "2 2 2"), ("lay", "3 2 2"),
            ("vote 1 0", "0 4 3"), ("point", "1 4 3"), ("drop", "0 4 4"), ("take 1", "2 2 4"),
        ]:
            desk.say("do north " + row)
            with self.subTest(row=row):
                self.assert_same(desk.say("state north"), told)

    def test_text(self):
        desk = desk_behind(ROWS)
        for number, told in [
            (1, "matter / the old hall / is kept"), (2, "change turn 0 a newer hall"), (3, "mend turn 1 newer"),
            (4, "put off 2"), (5, "matter"), (6, "close"), (7, "lay"), (8, "point of order"), (9, "rest"),
            (10, "point"),
        ]:
            with self.subTest(number=number):
                self.assert_same(desk.say(f"text north {number}"), told)

    def test_text_as_it_is_now(self):
        desk = desk_behind(["matter / a / b", "change put 1 c d", "mend cut 0", "vote 1 0"])
        self.assert_same(desk.say("text north 2"), "change put 1 d")
        self.assert_same(desk.say("text north 1"), "matter / a / b")
        desk.say("do north vote 1 0")
        self.assert_same(desk.say("text north 1"), "matter / a / d / b")

    def test_minutes(self):
        desk = desk_with("open north 5")
        self.assert_same(desk.say("minutes north"), "")
        desk.say("do north point")
        self.assert_same(desk.say("minutes north"), "point")
        desk = desk_behind(ROWS)
        self.assert_refused(Barred, 7, desk.say, "do north point")
        self.assert_same(desk.say("minutes north"), "\n".join(ROWS))

    def test_a_name_twice(self):
        desk = desk_behind(ROWS)
        self.assert_same(desk.say("open north 3"), "ok")
        self.assert_same(desk.say("state north"), "0 0 0")
        self.assert_same(desk.say("minutes north"), "")
        desk.say("do north point")
        self.assert_desk_refuses(desk, TooMany, None, "do north vote 4 0")
        self.assert_same(desk.say("read north 7\nrest\nvote 7 0"), "ok")
        self.assert_same(desk.say("minutes north"), "rest\nvote 7 0")

    def test_names_stand_by_themselves(self):
        desk = desk_with("open north 5", "open south 5", "do north matter / a", "do south point")
        self.assert_same(desk.say("minutes north"), "matter / a")
        self.assert_same(desk.say("minutes south"), "point")
        desk.say("open south 5")
        self.assert_same(desk.say("state north"), "1 0 0")

    def test_desks_stand_by_themselves(self):
        one, other = desk_with("open north 5"), Desk()
        self.assert_desk_refuses(other, NoName, "north", "state north")
        other.say("open north 5")
        one.say("do north point")
        self.assert_same(other.say("state north"), "0 0 0")

    def test_blank_rows_behind(self):
        for blanks in ("\n", "\n\n", "\n   ", "\n \n\n  \n"):
            desk = Desk()
            with self.subTest(blanks=blanks):
                for text, told in [
                    ("open north 5", "ok"), ("do north matter / a", "1"), ("state north", "1 0 0"),
                    ("order north", "change, put off, close, lay, rest, point"), ("text north 1", "matter / a"),
                    ("minutes north", "matter / a"), ("part north north", "alike"),
                ]:
                    self.assert_same(desk.say(text + blanks), told)


class TestRead(DeskTest):

    def test_without_rows(self):
        desk = Desk()
        self.assert_same(desk.say("read north 5"), "ok")
        self.assert_same(self.told(desk, ["north"]), ["matter, rest, point", "0 0 0", ""])

    def test_good_rows(self):
        desk, other = Desk(), desk_behind(ROWS)
        self.assert_same(desk.say("read north 5\n" + "\n".join(ROWS)), "ok")
        self.assert_same(self.told(desk), self.told(other))
        for number in range(1, 11):
            self.assert_same(desk.say(f"text north {number}"), other.say(f"text north {number}"))
        for row in ("drop", "change cut 1", "vote 5 0"):
            self.assert_same(desk.say("do north " + row), other.say("do north " + row))
        self.assert_same(self.told(desk), self.told(other))

    def test_minutes_read_back(self):
        desk = desk_behind(ROWS)
        desk.say("read south 5\n" + desk.say("minutes north"))
        self.assert_same(desk.say("part north south"), "alike")
        self.assert_same(desk.say("minutes south"), desk.say("minutes north"))

    def test_the_seats(self):
        self.assert_same(Desk().say("read north 5\npoint\nvote 5 0"), "ok")
        self.assert_desk_refuses(Desk(), NoRow, 3, "read north 4\npoint\nvote 5 0")
        self.assert_same(Desk().say("read north 1000000000\npoint\nvote 1000000000 0"), "ok")
        for seats in ("0", "1000000001", "05", "", "a"):
            self.assert_desk_refuses(Desk(), NoRow, 1, f"read north {seats}\npoint")

    def test_an_empty_row(self):
        for text, row in [
            ("read north 5\n", 2), ("read north 5\n\npoint", 2), ("read north 5\npoint\n", 3),
            ("read north 5\npoint\n\ndrop", 3), ("read north 5\n ", 2), ("read north 5\npoint\n  ", 3),
            ("read north 5\n\n", 2),
        ]:
            self.assert_desk_refuses(desk_behind(ROWS), NoRow, row, text)

    def test_a_row_that_is_none_and_one_whose_deed_is_refused(self):
        for bad in (
            "motion", "drop ", "vote 1", "take 01", "put off 0", "open north 5", "vote 6 0", "take 99", "mend cut 9",
        ):
            for place in (0, 1, 7, len(ROWS)):
                rows = ROWS[:place] + [bad] + ROWS[place:]
                text = "\n".join(["read north 5"] + rows)
                self.assert_desk_refuses(desk_behind(["rest"]), NoRow, place + 2, text)
                self.assert_desk_refuses(Desk(), NoRow, place + 2, text)

    def test_the_first_of_several(self):
        self.assert_desk_refuses(Desk(), NoRow, 3, "read north 5\npoint\nclose\n\nvote 9 9")


class TestPart(DeskTest):

    def desk(self, one, other, seats=5):
        return desk_with("\n".join(["read north 5"] + one), "\n".join([f"read south {seats}"] + other))

    def check(self, one, other, told, seats=5):
        with self.subTest(one=one, other=other):
            desk = self.desk(one, other, seats)
            before = self.told(desk)
            self.assert_same(desk.say("part north south"), told)
            self.assert_same(desk.say("part south north"), told)
            self.assert_same(self.told(desk), before)

    def test_alike(self):
        self.check([], [], "alike")
        self.check(ROWS, ROWS, "alike")
        self.check(["point", "vote 1 0"], ["point", "vote 5 0"], "alike")

    def test_by_itself(self):
        desk = desk_behind(ROWS)
        self.assert_same(desk.say("part north north"), "alike")

    def test_unlike(self):
        self.check([], ["point"], "1")
        self.check(["point"], ["rest"], "1")
        self.check(ROWS, ROWS[:-1], str(len(ROWS)))
        self.check(["point", "drop", "rest"], ["point", "vote 0 0", "rest"], "2")
        self.check(["point", "drop"] * 60, ["point", "drop"] * 59 + ["point", "vote 0 0"], "120")

    def test_unlike_seats(self):
        self.check([], [], "seats", 6)
        self.check(ROWS, ROWS, "seats", 6)
        self.check(ROWS, [], "seats", 4)


class TestRefusals(DeskTest):

    def desk(self):
        return desk_behind(ROWS[:5])

    def test_a_first_row_that_is_none(self):
        for text in (
            "", " ", "\n", "north", "close", "state", "order", "minutes", "open", "read", "do", "text", "part",
            "states north", "State north", "STATE north", "say north", "keep north 5", "open north", "read north",
            "open 5", "open 5 north", "open north 5 5", "open north five", "open north 5 matter", "read north 5 point",
            "do north", "text north", "text 1", "text north 1 1", "text north one", "text 1 north", "part north",
            "part north north north", "part north 5", "order north south", "state north 1", "minutes north 1",
            "order north north", "minutes", "state 1", "point", "matter / a", "drop",
        ):
            self.assert_desk_refuses(self.desk(), NoRow, 1, text)

    def test_blanks(self):
        for text in (
            "open north 5", "read north 5", "do north point", "order north", "state north", "text north 1",
            "minutes north", "part north north",
        ):
            self.assert_desk_refuses(self.desk(), NoRow, 1, " " + text)
            self.assert_desk_refuses(self.desk(), NoRow, 1, text + " ")
            self.assert_desk_refuses(self.desk(), NoRow, 1, "\n" + text)
            for place, sign in enumerate(text):
                if sign == " ":
                    self.assert_desk_refuses(self.desk(), NoRow, 1, text[:place] + " " + text[place:])

    def test_names(self):
        forms = [
            "open {} 5", "read {} 5", "do {} point", "order {}", "state {}", "text {} 1", "minutes {}", "part {} north",
            "part north {}",
        ]
        names = [
            "", "abcdefghijklm", "a" * 13, "a" * 40, "North", "NORTH", "nortH", "north1", "1", "a-b", "a_b", "a.b",
            "`", "{", "@", "[", "a{", "/", "north!", "a'b",
        ]
        for form in forms:
            for name in names:
                self.assert_desk_refuses(self.desk(), NoRow, 1, form.replace("{}", name))

    def test_numbers(self):
        for seats in (
            "0", "1000000001", "9999999999", "10000000000", "01", "00", "05", "-1", "+5", "5a", "a", "", "1.0", "1_0",
            "1,0", "/",
        ):
            self.assert_desk_refuses(self.desk(), NoRow, 1, f"open north {seats}")
            self.assert_desk_refuses(self.desk(), NoRow, 1, f"read north {seats}")
        for number in ("01", "00", "-1", "+1", "1a", "a", "", "12345678901", "1.0", "1_0", "/"):
            self.assert_desk_refuses(self.desk(), NoRow, 1, f"text north {number}")

    def test_deeds_that_are_no_rows(self):
        for row in (
            "", " ", "motion", "Point", "drop ", " drop", "drop 1", "close 1", "vote", "vote 1", "vote 01 0",
            "vote -1 0", "vote 1 0 0", "take", "take -1", "take 12345678901", "put off", "put 2", "put off 0",
            "put off 1000000000",
            "matter a", "matter /  a", "matter / " + "a" * 21, "change put", "change put -1 a", "change cut 0 a",
            "change put 0 a / b", "mend put 0", "mend put 0 a b", "point /", "do north point", "state north",
        ):
            self.assert_desk_refuses(self.desk(), NoRow, 1, "do north " + row)

    def test_rows_behind_an_order_that_takes_none(self):
        for text in (
            "open north 5", "open south 5", "do north point", "order north", "state north", "text north 1",
            "minutes north", "part north north",
        ):
            for behind, row in [
                ("\npoint", 2), ("\n\npoint", 3), ("\n  \n \na", 4), ("\n a", 2), ("\na ", 2), ("\na\nb", 2),
                ("\n\n.\n\n.", 3), ("\npoint\n", 2), ("\n\n\n\n\n\n\n\n\nx", 10),
            ]:
                self.assert_desk_refuses(self.desk(), NoRow, row, text + behind)

    def test_no_chamber_by_the_name(self):
        for text, name in [
            ("do south point", "south"), ("order south", "south"), ("state south", "south"), ("text south 1", "south"),
            ("minutes south", "south"), ("part south north", "south"), ("part north south", "south"),
            ("part south west", "south"), ("part west south", "west"), ("part south south", "south"),
            ("state abcdefghijkl", "abcdefghijkl"), ("do a drop", "a"), ("text nort 99", "nort"),
            ("do south take 9", "south"),
        ]:
            self.assert_desk_refuses(self.desk(), NoName, name, text)

    def test_the_order_of_refusals(self):
        for refusal, value, text in [
            # No row of an order, ahead of rows behind and of a name that is not there.
            (NoRow, 1, "do south motion\nx"), (NoRow, 1, "open south 0\nx"), (NoRow, 1, "text south 01\nx"),
            (NoRow, 1, "do south vote 1"), (NoRow, 1, "part south North"), (NoRow, 1, "state south 1"),
            (NoRow, 1, "read south 0\nmotion"), (NoRow, 1, "text north 01"),
            # Rows behind, ahead of a name that is not there.
            (NoRow, 2, "do south point\nx"), (NoRow, 3, "state south\n\nx"), (NoRow, 2, "part south west\nx"),
            (NoRow, 2, "text south 99\nx"), (NoRow, 2, "do north matter\nx"), (NoRow, 2, "text north 99\nx"),
            # A name that is not there, ahead of what the deed brings.
            (NoName, "south", "do south vote 9 9"), (NoName, "south", "text south 0"),
        ]:
            self.assert_desk_refuses(self.desk(), refusal, value, text)

    def test_what_the_deed_brings(self):
        on_change = ["matter / a", "change put 0 b"]
        for rows, refusal, value, row in [
            (["matter"], Barred, 0, "matter"), (["point"], Barred, 7, "rest"), ([], NoMatter, None, "lay"),
            (["matter"], NoChange, None, "mend cut 0"), (["matter"], NoFit, None, "change cut 0"),
            (on_change, NoFit, None, "mend cut 1"), (["rest", "vote 1 0", "matter"], NotLater, 2, "put off 2"),
            ([], Nothing, None, "vote 9 9"), ([], Nothing, None, "drop"), (["point"], TooMany, None, "vote 3 3"),
            (["matter"], Barred, 0, "take 1"), ([], NoAside, None, "take 1"), ([], NoAside, None, "take 0"),
            (["matter", "put off 4", "vote 1 0"], NotYet, 4, "take 1"),
        ]:
            self.assert_desk_refuses(desk_behind(rows), refusal, value, "do north " + row)

    def test_numbers_of_no_motion(self):
        for number in (0, 5, 6, 99, 9999999999):
            self.assert_desk_refuses(self.desk(), NoNumber, None, f"text north {number}")


if __name__ == "__main__":
    unittest.main()
