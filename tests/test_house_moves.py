"""Points 3, 10 to 13: a new chamber, and motions made or refused in every kind of moment."""

import unittest

from helper import ChamberTest, chamber_behind, do_rows, numbers_of
from moot.errors import Barred, NoChange, NoFit, NoMatter, NotLater
from moot.house import Chamber

KINDS = ["matter", "change", "mend", "put off", "close", "lay", "rest", "point"]

# One motion of each kind, in the order of KINDS: those that fit every moment where they are in order,
# and those that fit none. What bars a motion, or what it lacks, is told ahead of what does not fit.
FITTING = [
    ("matter", ["x"]), ("change", ("put", 0, "x y")), ("mend", ("put", 0, "w")), ("put off", 2),
    ("close",), ("lay",), ("rest",), ("point", "of order"),
]
UNFITTING = [
    ("matter", []), ("change", ("cut", 7)), ("mend", ("turn", 7, "w")), ("put off", 1),
    ("close",), ("lay",), ("rest",), ("point", ""),
]
NOT_FITTING = {"change": (NoFit, None), "mend": (NoFit, None), "put off": (NotLater, 1)}

MATTER = ["matter / a b / c"]
PUT = MATTER + ["change put 0 d e"]
CUT = MATTER + ["change cut 0"]
TURN = MATTER + ["change turn 1 d e"]
MEND = PUT + ["mend cut 0"]
CLOSING = ["close", "vote 2 1"]

# The rows that lead to the moment, its bar, and for each kind of KINDS: . made, b barred, m no matter, c no change.
MOMENTS = [
    ([], -1, ".mmmmm.."),
    (MATTER, 0, "b.c....."),
    (["matter"], 0, "b.c....."),
    (PUT, 1, "bb......"),
    (CUT, 1, "bbc....."),
    (TURN, 1, "bb......"),
    (MATTER + ["change turn 0"], 1, "bb......"),
    (MEND, 2, "bbb....."),
    (TURN + ["mend put 2 f"], 2, "bbb....."),
    (MATTER + ["put off 5"], 3, "bbbb...."),
    (PUT + ["put off 5"], 3, "bbbb...."),
    (MEND + ["put off 5"], 3, "bbbb...."),
    (MATTER + ["close"], 4, "bbbbb..."),
    (CUT + ["close"], 4, "bbbbb..."),
    (MEND + ["put off 5", "close"], 4, "bbbbb..."),
    (MATTER + ["lay"], 5, "bbbbbb.."),
    (TURN + ["lay"], 5, "bbbbbb.."),
    (MATTER + ["rest"], 6, "bbbbbbb."),
    (PUT + ["rest"], 6, "bbbbbbb."),
    (["rest"], 6, "bbbbbbb."),
    (MATTER + ["point"], 7, "bbbbbbbb"),
    (PUT + ["point a"], 7, "bbbbbbbb"),
    (MEND + ["put off 5", "close", "lay", "rest", "point"], 7, "bbbbbbbb"),
    (["point a"], 7, "bbbbbbbb"),
    (["rest", "point a"], 7, "bbbbbbbb"),
    (MATTER + CLOSING, 4, "bbbbb..."),
    (PUT + CLOSING, 4, "bbbbb..."),
    (CUT + CLOSING, 4, "bbbbb..."),
    (TURN + CLOSING, 4, "bbbbb..."),
    (MEND + CLOSING, 4, "bbbbb..."),
    (MEND + ["put off 5"] + CLOSING, 4, "bbbbb..."),
    (MATTER + CLOSING + ["lay"], 5, "bbbbbb.."),
    (MATTER + CLOSING + ["rest"], 6, "bbbbbbb."),
    (PUT + CLOSING + ["point"], 7, "bbbbbbbb"),
    (MATTER + CLOSING + ["lay", "rest", "point"], 7, "bbbbbbbb"),
    # Behind what was decided the moment is as if it had not been made.
    (MATTER + ["vote 1 0"], -1, ".mmmmm.."),
    (MATTER + CLOSING + ["vote 0 1"], -1, ".mmmmm.."),
    (MATTER + ["close", "vote 1 1"], 0, "b.c....."),
    (PUT + ["vote 1 0"], 0, "b.c....."),
    (PUT + ["drop"], 0, "b.c....."),
    (MEND + ["vote 1 0"], 1, "bb......"),
    (MEND + ["vote 0 1"], 1, "bb......"),
    (PUT + CLOSING + ["vote 1 0"], 4, "bbbbb..."),
]

LETTERS = {"m": NoMatter, "c": NoChange}


class TestNewChamber(ChamberTest):

    def test_it_has_nothing(self):
        for seats in (1, 2, 10 ** 9):
            chamber = Chamber(seats)
            self.assert_same(chamber.state(), (1, False, [], [], []))
            self.assert_same(chamber.in_order(), ["matter", "rest", "point"])
            self.assert_same(chamber.minutes(), [])

    def test_motions_are_numbered_from_1_as_they_are_made(self):
        chamber = Chamber(3)
        self.assert_same(chamber.move(("rest",)), 1)
        self.assert_same(chamber.move(("point", "a")), 2)
        self.assert_same(chamber.drop(), "dropped")
        self.assert_same(chamber.move(("point", "a")), 3)
        self.assert_refused(Barred, 7, chamber.move, ("point", "a"))
        do_rows(chamber, ["vote 1 0", "vote 0 1"])
        self.assert_same(chamber.move(("matter", [])), 4)

    def test_two_chambers_do_not_touch_one_another(self):
        one, other = Chamber(3), Chamber(3)
        do_rows(one, ["matter / a", "change cut 0", "vote 1 0", "lay", "vote 1 0", "rest", "vote 1 0", "point"])
        self.assert_same(other.state(), (1, False, [], [], []))
        self.assert_same(other.minutes(), [])
        self.assert_same(other.move(("matter", ["z"])), 1)
        self.assert_same(one.motion(1), ("matter", []))
        self.assert_same(other.motion(1), ("matter", ["z"]))
        self.assert_same(other.kept_changes(1), [])


class TestMoments(ChamberTest):

    def check(self, rows, told, letter, bar, then=None):
        with self.subTest(rows=rows, told=told):
            chamber = chamber_behind(rows)
            pile, number = chamber.state()[2], len(numbers_of(chamber)) + 1
            if letter == "b":
                self.assert_deed_refused(chamber, Barred, bar, chamber.move, told)
            elif letter != ".":
                self.assert_deed_refused(chamber, LETTERS[letter], None, chamber.move, told)
            elif then is not None:
                self.assert_deed_refused(chamber, then[0], then[1], chamber.move, told)
            else:
                self.assert_same(chamber.move(told), number)
                self.assert_same(chamber.state()[2], pile + [number])
                self.assert_same(chamber.motion(number), told)

    def test_what_is_in_order(self):
        for rows, bar, letters in MOMENTS:
            with self.subTest(rows=rows):
                kinds = [kind for kind, letter in zip(KINDS, letters) if letter == "."]
                self.assert_same(chamber_behind(rows).in_order(), kinds)

    def test_each_kind_in_every_moment(self):
        for rows, bar, letters in MOMENTS:
            for told, letter in zip(FITTING, letters):
                self.check(rows, told, letter, bar)

    def test_the_first_refusal_is_told(self):
        for rows, bar, letters in MOMENTS:
            for told, letter in zip(UNFITTING, letters):
                self.check(rows, told, letter, bar, NOT_FITTING.get(told[0]))

    def test_every_kind_and_refusal_is_there(self):
        for place in range(8):
            letters = {letters[place] for rows, bar, letters in MOMENTS}
            self.assertIn(".", letters)
            self.assertIn("b", letters)
        self.assertEqual({bar for rows, bar, letters in MOMENTS}, set(range(-1, 8)))


class TestFit(ChamberTest):

    def check_places(self, rows, kind, thing, many):
        """All places about a list of so many things."""
        for word, ends in (("put", many + 1), ("cut", many), ("turn", many)):
            for place in [-10 ** 6, -2, -1] + list(range(many + 4)) + [10 ** 6]:
                told = (kind, (word, place) if word == "cut" else (word, place, thing))
                with self.subTest(rows=rows, told=told):
                    chamber = chamber_behind(rows)
                    if 0 <= place < ends:
                        number = chamber.move(told)
                        self.assert_same(chamber.motion(number), told)
                    else:
                        self.assert_deed_refused(chamber, NoFit, None, chamber.move, told)

    def test_a_change_of_a_text(self):
        self.check_places(["matter"], "change", "x y", 0)
        self.check_places(["matter /"], "change", "x y", 1)
        self.check_places(["matter / a b c / d"], "change", "", 2)

    def test_a_change_of_a_text_as_it_is_now(self):
        rows = ["matter / a / b", "change put 0 c", "vote 1 0"]
        self.check_places(rows, "change", "x", 3)
        self.check_places(rows + ["change cut 2", "vote 1 0", "change cut 0", "vote 1 0"], "change", "x", 1)
        self.check_places(rows + ["change put 3 d", "vote 0 1", "change cut 0", "drop"], "change", "x", 3)
        self.check_places(rows + ["lay", "vote 1 0", "take 1"], "change", "x", 3)
        self.check_places(rows + ["vote 1 0", "matter / a"], "change", "x", 1)

    def test_a_mend_of_a_change(self):
        for rows in (["matter / a / b", "change put 1 {}"], ["matter / a / b", "change turn 1 {}"]):
            for words in ([], ["u"], ["u", "v", "w"]):
                given = [rows[0], rows[1].replace("{}", " ".join(words)).rstrip(" ")]
                self.check_places(given, "mend", "x", len(words))

    def test_a_mend_of_a_change_as_it_is_now(self):
        rows = ["matter / a / b", "change turn 1 u v", "mend put 2 w", "vote 1 0"]
        self.check_places(rows, "mend", "x", 3)
        self.check_places(rows + ["mend cut 0", "vote 1 0", "mend cut 0", "vote 1 0"], "mend", "x", 1)
        self.check_places(rows + ["mend put 0 y", "vote 1 1"], "mend", "x", 3)
        self.check_places(rows + ["put off 2", "vote 1 0", "rest", "vote 1 0", "take 1"], "mend", "x", 3)
        cuts = ["mend cut 0", "vote 1 0"] * 3
        self.check_places(rows + cuts, "mend", "x", 0)


class TestPutOff(ChamberTest):

    def test_only_a_later_sitting(self):
        for rests in range(4):
            sitting = rests + 1
            rows = ["rest", "vote 1 0"] * rests + ["rest", "vote 0 1", "matter / a"]
            for later in (-5, -1, 0, 1, 2, 3, 4, 5, 6, 999999999):
                with self.subTest(sitting=sitting, later=later):
                    chamber = chamber_behind(rows)
                    if later > sitting:
                        self.assert_same(chamber.motion(chamber.move(("put off", later))), ("put off", later))
                    else:
                        self.assert_deed_refused(chamber, NotLater, sitting, chamber.move, ("put off", later))


if __name__ == "__main__":
    unittest.main()
