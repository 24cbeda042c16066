"""Points 2, 3, 22 and 23: deeds of any kind done, minutes read back, and where two lists of rows part."""

import unittest

from helper import ChamberTest, chamber_behind, do_rows, picture
from moot.errors import Barred, NoAside, NoFit, NoRow, Nothing, NotYet, TooMany
from moot.house import Chamber
from moot.replay import do_deed, parted, replay
from moot.rows import read_deed

# All eleven kinds of deeds.
ROWS = [
    "matter / the old hall / is kept", "change turn 0 a new hall", "mend turn 1 newer", "vote 3 2", "put off 2",
    "vote 1 0", "matter", "close", "vote 2 1", "lay", "point of order", "drop", "vote 1 0", "rest", "vote 5 0",
    "take 1", "vote 1 0", "change cut 0", "vote 2 0",
]
# What both chambers do behind them.
MORE = [
    "change put 0 x y", "mend cut 0", "close", "vote 1 0", "vote 1 0", "vote 1 0", "lay", "vote 1 0", "take 5",
    "change put 0 z", "drop", "put off 3", "vote 1 0", "take 1", "vote 0 1", "rest", "vote 1 0", "take 5", "vote 1 0",
    "matter / a", "point",
]
# What is no row of a deed.
NO_ROWS = [
    "", " ", "motion", "drop ", " drop", "vote 1", "vote  1 0", "vote 01 0", "vote -1 0", "put off 0",
    "put off 1000000000", "take", "mend put 0", "change put -1 a", "matter a", "close 1", "drop\n",
]


class TestDoDeed(ChamberTest):

    def test_it_tells_what_the_method_tells(self):
        one, other = Chamber(5), Chamber(5)
        kinds = set()
        for row in ROWS + MORE:
            deed = read_deed(row)
            kinds.add(deed[0])
            methods = {
                "vote": lambda: other.vote(deed[1], deed[2]), "drop": other.drop, "take": lambda: other.take(deed[1]),
            }
            told = methods.get(deed[0], lambda: other.move(deed))()
            with self.subTest(row=row):
                self.assert_same(do_deed(one, deed), told)
                self.assert_same(picture(one), picture(other))
        self.assertEqual(len(kinds), 11)

    def test_written_out(self):
        chamber = Chamber(3)
        for deed, told in [
            (("matter", ["a"]), 1), (("change", ("put", 0, "b")), 2), (("mend", ("cut", 0)), 3), (("put off", 2), 4),
            (("close",), 5), (("lay",), 6), (("rest",), 7), (("point", ""), 8), (("vote", 1, 1), "lost"),
            (("drop",), "dropped"), (("vote", 1, 0), "kept"), (("take", 1), 1),
        ]:
            with self.subTest(deed=deed):
                self.assert_same(do_deed(chamber, deed), told)

    def test_it_refuses_as_the_method_does(self):
        chamber = chamber_behind(["matter / a", "put off 3", "vote 1 0"], 3)
        for refusal, value, deed in [
            (Nothing, None, ("vote", 1, 0)), (Nothing, None, ("drop",)), (NoAside, None, ("take", -1)),
            (NotYet, 3, ("take", 1)),
        ]:
            self.assert_deed_refused(chamber, refusal, value, do_deed, chamber, deed)
        do_rows(chamber, ["matter / b"])
        for refusal, value, deed in [
            (Barred, 0, ("matter", [])), (NoFit, None, ("change", ("cut", -1))), (TooMany, None, ("vote", 2, 2)),
            (Barred, 0, ("take", 1)),
        ]:
            self.assert_deed_refused(chamber, refusal, value, do_deed, chamber, deed)

    def test_the_deed_stays(self):
        text = ["a"]
        chamber = Chamber(1)
        do_deed(chamber, ("matter", text))
        do_rows(chamber, ["change cut 0", "vote 1 0"])
        self.assert_same(text, ["a"])
        text.append("b")
        self.assert_same(chamber.first_text(1), ["a"])


class TestReplay(ChamberTest):

    def test_it_leads_to_the_same(self):
        for many in range(len(ROWS) + 1):
            chamber = chamber_behind(ROWS[:many], 5)
            again = replay(5, chamber.minutes())
            with self.subTest(many=many):
                self.assertIs(type(again), Chamber)
                self.assert_same(picture(again), picture(chamber))

    def test_both_go_on_alike(self):
        chamber = chamber_behind(ROWS, 5)
        again = replay(5, chamber.minutes())
        for row in MORE:
            with self.subTest(row=row):
                self.assert_same(do_rows(again, [row]), do_rows(chamber, [row]))
                self.assert_same(picture(again), picture(chamber))

    def test_what_was_refused_is_left_out(self):
        chamber = Chamber(5)
        for row in ROWS:
            for deed in (("vote", 6, 0), ("take", 99), ("change", ("cut", 99))):
                with self.assertRaises(ValueError):
                    do_deed(chamber, deed)
            do_rows(chamber, [row])
        self.assert_same(picture(replay(5, chamber.minutes())), picture(chamber_behind(ROWS, 5)))

    def test_each_is_a_new_one(self):
        one, other = replay(5, ROWS), replay(5, ROWS)
        do_rows(one, MORE)
        self.assert_same(picture(other), picture(chamber_behind(ROWS, 5)))

    def test_without_rows(self):
        chamber = replay(2, [])
        self.assert_same(chamber.state(), (1, False, [], [], []))
        self.assert_same(chamber.minutes(), [])
        do_rows(chamber, ["point"])
        self.assert_refused(TooMany, None, chamber.vote, 2, 1)

    def test_the_seats(self):
        self.assert_refused(NoRow, 2, replay, 4, ["point", "vote 5 0", "point"])
        self.assert_same(replay(5, ["point", "vote 5 0"]).state(), (1, False, [], [], [(1, "kept")]))
        chamber = replay(10 ** 9, ["point", "vote 1000000000 0", "point"])
        self.assert_refused(TooMany, None, chamber.vote, 10 ** 9, 1)

    def test_a_row_that_is_none(self):
        for row in NO_ROWS:
            for place in (0, 1, 7, len(ROWS) - 1, len(ROWS)):
                with self.subTest(row=row, place=place):
                    self.assert_refused(NoRow, place + 1, replay, 5, ROWS[:place] + [row] + ROWS[place:])
            self.assert_refused(NoRow, 1, replay, 5, [row])

    def test_a_row_whose_deed_is_refused(self):
        for place, row in [
            (0, "vote 1 0"), (0, "drop"), (0, "take 1"), (0, "close"), (0, "mend cut 0"), (1, "matter"), (1, "take 1"),
            (1, "change cut 2"), (1, "mend cut 0"), (1, "put off 1"), (1, "vote 4 2"), (2, "mend cut 9"),
            (2, "change cut 0"), (6, "take 1"), (9, "change put 0 a"), (len(ROWS), "take 1"), (len(ROWS), "vote 9 0"),
            (len(ROWS), "put off 2"),
        ]:
            with self.subTest(row=row, place=place):
                self.assert_refused(NoRow, place + 1, replay, 5, ROWS[:place] + [row] + ROWS[place:])

    def test_the_first_of_several(self):
        self.assert_refused(NoRow, 2, replay, 5, ["point", "close", "", "vote 9 9"])
        self.assert_refused(NoRow, 1, replay, 5, ["", "close"])
        self.assert_refused(NoRow, 2, replay, 5, ["point", "point", "drop"])

    def test_the_rows_stay_and_are_kept_as_a_copy(self):
        rows = list(ROWS)
        chamber = replay(5, rows)
        self.assert_same(rows, ROWS)
        rows.clear()
        self.assert_same(chamber.minutes(), ROWS)
        chamber.minutes().clear()
        rows = ["point", ""]
        self.assert_refused(NoRow, 2, replay, 5, rows)
        self.assert_same(rows, ["point", ""])

    def test_400_rows(self):
        rows = ["matter / a"] + ["change put 0 b", "vote 1 0"] * 199 + ["vote 1 0"]
        chamber = replay(1, rows)
        self.assert_same(chamber.motion(1), ("matter", ["b"] * 199 + ["a"]))
        self.assert_same(chamber.minutes(), rows)


class TestParted(ChamberTest):

    def check(self, one, other, told, seats=9):
        with self.subTest(one=one, other=other):
            self.assert_same(parted(seats, one, other), told)
            self.assert_same(parted(seats, other, one), told)

    def test_the_same(self):
        for many in range(len(ROWS) + 1):
            self.check(ROWS[:many], ROWS[:many], None, 5)

    def test_one_is_longer(self):
        for many in range(len(ROWS)):
            self.check(ROWS, ROWS[:many], many + 1, 5)
        self.check([], ["point"], 1)
        self.check(["point", "drop"], ["point"], 2)

    def test_at_the_first_row(self):
        for one, other in [
            ("matter", "rest"), ("matter", "matter /"), ("matter / a", "matter / b"), ("point", "point a"),
            ("matter / a b", "matter / a / b"), ("rest", "point"),
        ]:
            self.check([one], [other], 1)
            self.check([one, "vote 1 0"], [other, "vote 1 0"], 1)
            self.check([one, "drop"], [other], 1)

    def test_in_the_middle_and_at_the_end(self):
        start = ["matter / a / b", "change put 1 c d"]
        for one, other in [
            ("mend cut 0", "mend cut 1"), ("mend cut 0", "put off 2"), ("put off 2", "put off 3"), ("close", "lay"),
            ("rest", "point"), ("point a", "point b"), ("vote 1 0", "vote 0 0"), ("vote 0 1", "drop"),
            ("vote 1 0", "drop"), ("vote 1 0", "point"),
        ]:
            self.check(start + [one], start + [other], 3)
            self.check(start + [one, "drop"], start + [other, "drop"], 3)

    def test_what_comes_together_again_has_parted(self):
        self.check(["point a", "drop", "point"], ["point b", "drop", "point"], 1)
        # Behind the second row the states are unlike; behind the last one the piles and sittings are alike again.
        self.check(["rest", "vote 1 0", "matter"], ["rest", "point", "drop", "vote 1 0", "matter"], 2)

    def test_unlike_rows_that_lead_to_the_same(self):
        self.check(["point", "vote 1 0"], ["point", "vote 9 0"], None)
        self.check(["point", "vote 0 0"], ["point", "vote 4 5"], None)
        self.check(["matter", "close", "vote 2 1", "vote 0 1"], ["matter", "close", "vote 6 3", "vote 1 1"], None)
        self.check(["matter", "lay", "vote 2 1", "take 1"], ["matter", "lay", "vote 9 0", "take 1"], None)
        self.check(["point", "vote 1 0", "rest"], ["point", "vote 2 0", "point"], 3)
        self.check(["point", "vote 1 0", "rest"], ["point", "vote 2 0"], 3)

    def test_the_same_votes_unlike_in_what_they_do(self):
        self.check(["matter", "close", "vote 3 2"], ["matter", "close", "vote 4 2"], 3)
        self.check(["matter", "lay", "vote 3 3"], ["matter", "lay", "vote 4 2"], 3)

    def test_a_motion_is_unlike_though_the_states_are_alike(self):
        one = ["matter / a", "vote 1 0", "matter / b"]
        other = ["matter / a", "vote 1 0", "matter / c"]
        self.assert_same(replay(9, one).state(), replay(9, other).state())
        self.check(one, other, 3)
        # The first motions of all are unlike, those on top alike.
        self.check(["matter / a", "change put 0 x"], ["matter / b", "change put 0 x"], 1)

    def test_a_state_is_unlike_though_the_motions_are_alike(self):
        self.check(["matter", "put off 2", "vote 1 0"], ["matter", "put off 2", "vote 0 1"], 3)
        self.check(["rest", "vote 1 0"], ["rest", "vote 1 1"], 2)
        self.check(["point", "drop"], ["point", "vote 1 1"], 2)
        two = ["matter", "lay", "vote 1 0", "matter", "lay", "vote 1 0"]
        self.check(two + ["take 1"], two + ["take 3"], 7)

    def test_refused_in_the_first(self):
        for place in (0, 1, 7, len(ROWS)):
            for row in ("", "close 1", "vote 6 0", "take 99"):
                bad = ROWS[:place] + [row] + ROWS[place:]
                with self.subTest(place=place, row=row):
                    self.assert_refused(NoRow, place + 1, parted, 5, bad, ROWS)
                    self.assert_refused(NoRow, place + 1, parted, 5, ROWS, bad)
                    self.assert_refused(NoRow, place + 1, parted, 5, bad, [])
                    self.assert_refused(NoRow, place + 1, parted, 5, [], bad)
                    self.assert_refused(NoRow, place + 1, parted, 5, bad, bad)

    def test_refused_behind_the_row_where_they_part(self):
        self.assert_refused(NoRow, 3, parted, 5, ["rest", "drop", "drop"], ["point", "drop"])
        self.assert_refused(NoRow, 3, parted, 5, ["point", "drop"], ["rest", "drop", "drop"])
        self.assert_refused(NoRow, 4, parted, 5, ["point"], ["point", "drop", "point", "vote 6 0"])

    def test_refused_in_both(self):
        self.assert_refused(NoRow, 4, parted, 5, ["rest", "drop", "point", "point"], ["point", ""])
        self.assert_refused(NoRow, 2, parted, 5, ["point", ""], ["rest", "drop", "point", "point"])
        self.assert_refused(NoRow, 1, parted, 5, ["close"], ["point", "", ""])

    def test_the_seats(self):
        self.assert_same(parted(5, ["point", "vote 5 0"], ["point", "vote 4 1"]), None)
        self.assert_refused(NoRow, 2, parted, 4, ["point", "vote 5 0"], ["point", "vote 4 0"])
        self.assert_refused(NoRow, 2, parted, 4, ["point", "vote 4 0"], ["point", "vote 5 0"])

    def test_the_rows_stay(self):
        one, other = list(ROWS), list(ROWS[:5])
        parted(5, one, other)
        self.assert_same((one, other), (ROWS, ROWS[:5]))
        self.assert_same(parted(5, one, one), None)

    def test_400_rows(self):
        rows = ["matter" + " / n" * 100] + ["change put 0 b", "vote 1 0"] * 199
        self.assert_same(parted(1, rows + ["vote 1 0"], rows + ["vote 1 0"]), None)
        self.assert_same(parted(1, rows + ["vote 1 0"], rows + ["vote 0 1"]), 400)


if __name__ == "__main__":
    unittest.main()
