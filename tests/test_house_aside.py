"""Points 3, 17 and 18: matters put off or laid aside, and taken up again."""

import unittest

from helper import ChamberTest, chamber_behind, do_rows
from moot.errors import Barred, NoAside, NotYet

# A matter, with a change and a mend that wait on it.
WAITING = ["matter / a b / c", "change turn 1 d e f", "mend cut 0"]
REST = ["rest", "vote 1 0"]


class TestAside(ChamberTest):

    def test_a_put_off(self):
        chamber = chamber_behind(WAITING + ["put off 3", "vote 1 0"])
        self.assert_same(chamber.state(), (1, False, [], [(1, 3, [1, 2, 3])], [(4, "kept")]))
        self.assert_same(chamber.in_order(), ["matter", "rest", "point"])

    def test_a_lay(self):
        chamber = chamber_behind(REST * 2 + WAITING + ["lay", "vote 1 0"])
        self.assert_same(chamber.state()[:4], (3, False, [], [(3, 3, [3, 4, 5])]))

    def test_a_matter_alone(self):
        self.assert_same(chamber_behind(["matter", "lay", "vote 1 0"]).state()[3], [(1, 1, [1])])
        self.assert_same(chamber_behind(["matter", "put off 999999999", "vote 1 0"]).state()[3], [(1, 999999999, [1])])

    def test_until_the_sitting_of_the_vote(self):
        # Between the lay and its vote the sitting has gone on; a put off keeps the one that it told.
        self.assert_same(chamber_behind(["matter", "lay"] + REST * 2 + ["vote 1 0"]).state()[3], [(1, 3, [1])])
        self.assert_same(chamber_behind(["matter", "put off 2"] + REST * 2 + ["vote 1 0"]).state()[3], [(1, 2, [1])])

    def test_all_that_is_below_goes_aside(self):
        rows = WAITING + ["put off 4", "close", "lay", "vote 1 0"]
        self.assert_same(chamber_behind(rows).state()[:4], (1, False, [], [(1, 1, [1, 2, 3, 4, 5])]))

    def test_the_number_of_the_matter_not_of_the_pile(self):
        chamber = chamber_behind(["point", "drop", "rest", "drop", "matter / a", "change cut 0", "lay", "vote 1 0"])
        self.assert_same(chamber.state()[3], [(3, 1, [3, 4])])

    def test_several_by_their_numbers_rising(self):
        rows = ["matter / a", "lay", "vote 1 0", "matter / b", "put off 2", "vote 1 0", "matter / c", "change cut 0",
                "put off 9", "vote 1 0"]
        chamber = chamber_behind(rows)
        self.assert_same(chamber.state()[3], [(1, 1, [1]), (3, 2, [3]), (5, 9, [5, 6])])
        # The first one goes aside again behind the others, and still stands first.
        do_rows(chamber, ["take 1", "change cut 0", "put off 5", "vote 1 0"])
        self.assert_same(chamber.state()[3], [(1, 5, [1, 8]), (3, 2, [3]), (5, 9, [5, 6])])

    def test_what_is_aside_is_told_and_stays(self):
        chamber = chamber_behind(WAITING + ["vote 1 0", "mend put 0 x", "lay", "vote 1 0", "matter / z"])
        do_rows(chamber, ["change cut 0", "vote 1 0", "vote 1 0"] + REST)
        self.assert_same(chamber.state()[3], [(1, 1, [1, 2, 4])])
        self.assert_same(chamber.motion(1), ("matter", ["a b", "c"]))
        self.assert_same(chamber.motion(2), ("change", ("turn", 1, "e f")))
        self.assert_same(chamber.motion(4), ("mend", ("put", 0, "x")))
        self.assert_same(chamber.first_text(1), ["a b", "c"])
        self.assert_same(chamber.kept_changes(1), [])


class TestTake(ChamberTest):

    def test_too_early(self):
        chamber = chamber_behind(WAITING + ["put off 3", "vote 1 0"])
        self.assert_deed_refused(chamber, NotYet, 3, chamber.take, 1)
        do_rows(chamber, REST)
        self.assert_deed_refused(chamber, NotYet, 3, chamber.take, 1)
        do_rows(chamber, REST)
        self.assert_same(chamber.take(1), 1)
        self.assert_same(chamber.state()[:4], (3, False, [1, 2, 3], []))

    def test_later_than_it_must_be(self):
        chamber = chamber_behind(WAITING + ["put off 3", "vote 1 0"] + REST * 5)
        self.assert_same(chamber.take(1), 1)
        self.assert_same(chamber.state()[2], [1, 2, 3])

    def test_a_laid_one_at_once_and_later(self):
        for rests in range(3):
            chamber = chamber_behind(REST + WAITING + ["lay", "vote 1 0"] + REST * rests)
            self.assert_same(chamber.take(2), 2)
            self.assert_same(chamber.state()[:4], (2 + rests, False, [2, 3, 4], []))

    def test_while_something_is_pending(self):
        aside = ["matter / a", "lay", "vote 1 0", "matter / b", "put off 5", "vote 1 0"]
        for rows, bar in [
            (["matter"], 0), (["matter / a", "change put 0 a"], 1), (["matter / a", "change put 0 a", "mend cut 0"], 2),
            (["matter", "put off 2"], 3), (["matter", "close"], 4), (["matter", "lay"], 5), (["rest"], 6),
            (["point"], 7), (["rest", "point"], 7), (["matter", "close", "vote 1 0"], 4),
            (["matter / a", "change cut 0", "close", "vote 1 0"], 4), (["matter", "close", "vote 1 0", "lay"], 5),
            (["matter", "close", "vote 1 0", "point"], 7), (["take 1"], 0),
        ]:
            # Barred goes ahead of NoAside and NotYet.
            for number in (1, 3, 7, 0, -1, 99):
                with self.subTest(rows=rows, number=number):
                    chamber = chamber_behind(aside + rows)
                    self.assert_deed_refused(chamber, Barred, bar, chamber.take, number)

    def test_by_another_number(self):
        chamber = chamber_behind(["point", "drop"] + WAITING + ["lay", "vote 1 0", "matter", "vote 1 0"])
        self.assert_same(chamber.state()[3], [(2, 1, [2, 3, 4])])
        for number in (1, 3, 4, 5, 6, 7, 0, -1, -2, 10 ** 10):
            with self.subTest(number=number):
                self.assert_deed_refused(chamber, NoAside, None, chamber.take, number)
        self.assert_same(chamber.take(2), 2)

    def test_where_nothing_is_aside(self):
        for rows in ([], ["matter", "vote 1 0"], ["matter", "put off 2", "vote 0 1", "drop"]):
            for number in (1, 2, 0, -1):
                with self.subTest(rows=rows, number=number):
                    chamber = chamber_behind(rows)
                    self.assert_deed_refused(chamber, NoAside, None, chamber.take, number)

    def test_a_second_time(self):
        chamber = chamber_behind(["matter / a", "lay", "vote 1 0", "take 1"])
        self.assert_deed_refused(chamber, Barred, 0, chamber.take, 1)
        do_rows(chamber, ["vote 1 0"])
        self.assert_deed_refused(chamber, NoAside, None, chamber.take, 1)

    def test_aside_and_taken_up_over_and_over(self):
        chamber = chamber_behind(["matter / a"])
        for sitting in range(1, 6):
            do_rows(chamber, [f"put off {sitting + 1}", "vote 1 0"])
            self.assert_same(chamber.state()[2:4], ([], [(1, sitting + 1, [1])]))
            self.assert_deed_refused(chamber, NotYet, sitting + 1, chamber.take, 1)
            self.assert_same(do_rows(chamber, REST + ["take 1"])[2], 1)
            self.assert_same(chamber.state()[:4], (sitting + 1, False, [1], []))

    def test_the_others_stay_aside(self):
        chamber = chamber_behind(["matter / a", "lay", "vote 1 0", "matter / b", "change cut 0", "lay", "vote 1 0"])
        self.assert_same(chamber.take(3), 3)
        self.assert_same(chamber.state()[2:4], ([3, 4], [(1, 1, [1])]))

    def test_what_was_pending_is_pending_again(self):
        chamber = chamber_behind(WAITING + ["vote 1 0", "mend put 0 x", "put off 2", "vote 1 0"] + REST + ["take 1"])
        self.assert_same(chamber.state()[2], [1, 2, 4])
        self.assert_same(chamber.in_order(), ["put off", "close", "lay", "rest", "point"])
        self.assert_same(do_rows(chamber, ["vote 1 0", "vote 1 0", "vote 1 0"]), ["kept", "kept", "kept"])
        self.assert_same(chamber.motion(1), ("matter", ["a b", "x e f"]))
        self.assert_same(chamber.kept_changes(1), [("turn", 1, "x e f")])
        self.assert_same(chamber.first_text(1), ["a b", "c"])

    def test_a_put_off_and_a_close_that_went_aside(self):
        chamber = chamber_behind(["matter / a", "put off 2", "close", "lay", "vote 1 0"] + REST * 3 + ["take 1"])
        self.assert_same(chamber.state()[:4], (4, False, [1, 2, 3], []))
        self.assert_same(do_rows(chamber, ["vote 1 0"]), ["kept"])
        self.assert_same(chamber.state()[1], True)
        do_rows(chamber, ["vote 1 0"])
        self.assert_same(chamber.state()[:4], (4, False, [], [(1, 2, [1])]))
        self.assert_same(chamber.take(1), 1)

    def test_it_is_not_closed(self):
        chamber = chamber_behind(WAITING + ["close", "vote 1 0", "lay", "vote 1 0", "take 1"])
        self.assert_same(chamber.state()[:3], (1, False, [1, 2, 3]))
        do_rows(chamber, ["drop", "mend put 0 x", "vote 1 0"])
        self.assert_same(chamber.motion(2), ("change", ("turn", 1, "x d e f")))

    def test_a_close_between_does_not_count(self):
        chamber = chamber_behind(["matter / a", "lay", "vote 1 0", "matter", "close", "vote 1 0", "drop", "take 1"])
        self.assert_same(chamber.state()[:3], (1, False, [1]))
        self.assertIn("change", chamber.in_order())


if __name__ == "__main__":
    unittest.main()
