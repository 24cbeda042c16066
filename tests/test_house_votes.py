"""Points 3, 14 to 16: votes and drops, what kept motions do, and what lost ones leave."""

import unittest

from helper import ChamberTest, chamber_behind, do_rows
from moot.edits import laid_all
from moot.errors import Nothing, TooMany
from moot.house import Chamber

TEXT = ["the old hall", "is kept"]
MATTER = "matter / the old hall / is kept"


def told_state(rows, seats=9):
    return chamber_behind(rows, seats).state()


class TestVotes(ChamberTest):

    def test_nothing_is_pending(self):
        for rows in ([], ["point", "vote 1 0"], [MATTER, "drop"], [MATTER, "lay", "vote 1 0"]):
            for ayes, noes in ((0, 0), (1, 0), (9, 0), (10, 0), (10 ** 10, 10 ** 10)):
                with self.subTest(rows=rows, ayes=ayes, noes=noes):
                    chamber = chamber_behind(rows)
                    self.assert_deed_refused(chamber, Nothing, None, chamber.vote, ayes, noes)

    def test_too_many(self):
        for seats in (1, 2, 9, 10 ** 9):
            for kind in (("matter", ["a"]), ("rest",), ("point", "")):
                chamber = Chamber(seats)
                chamber.move(kind)
                with self.subTest(seats=seats, kind=kind):
                    for ayes, noes in ((seats + 1, 0), (0, seats + 1), (seats, 1), (1, seats), (seats * 9, seats * 9)):
                        self.assert_deed_refused(chamber, TooMany, None, chamber.vote, ayes, noes)
                    # Refused votes leave the motion for this one.
                    self.assert_same(chamber.vote(seats, 0), "kept")

    def test_just_the_seats(self):
        for seats in range(1, 8):
            for ayes in range(seats + 1):
                with self.subTest(seats=seats, ayes=ayes):
                    chamber = chamber_behind(["point"], seats)
                    noes = seats - ayes
                    self.assert_same(chamber.vote(ayes, noes), "kept" if ayes > noes else "lost")

    def test_what_each_kind_needs(self):
        piles = {
            "matter": [MATTER], "change": [MATTER, "change cut 0"],
            "mend": [MATTER, "change put 0 a", "mend cut 0"], "put off": [MATTER, "put off 2"],
            "close": [MATTER, "close"], "lay": [MATTER, "lay"], "rest": ["rest"], "point": ["point"],
        }
        votes = [
            (0, 0, "lost", "lost"), (1, 0, "kept", "kept"), (0, 1, "lost", "lost"), (1, 1, "lost", "lost"),
            (2, 1, "kept", "kept"), (3, 2, "kept", "lost"), (4, 2, "kept", "kept"), (5, 3, "kept", "lost"),
            (6, 3, "kept", "kept"), (5, 2, "kept", "kept"), (4, 4, "lost", "lost"), (5, 4, "kept", "lost"),
            (4, 5, "lost", "lost"), (9, 0, "kept", "kept"), (0, 9, "lost", "lost"),
        ]
        for kind, rows in piles.items():
            for ayes, noes, by_more, by_two_thirds in votes:
                with self.subTest(kind=kind, ayes=ayes, noes=noes):
                    chamber = chamber_behind(rows)
                    word = by_two_thirds if kind == "close" else by_more
                    self.assert_same(chamber.vote(ayes, noes), word)
                    self.assert_same(chamber.state()[4], [(len(rows), word)])

    def test_the_top_is_decided_and_the_rest_waits(self):
        rows = [MATTER, "change put 0 a b", "mend cut 0", "put off 5", "close", "lay", "rest", "point"]
        chamber = chamber_behind(rows)
        decided = []
        for number in range(8, 0, -1):
            self.assert_same(chamber.state(), (1, False, list(range(1, number + 1)), [], decided))
            self.assert_same(chamber.vote(4, 4), "lost")
            decided = decided + [(number, "lost")]
        self.assert_same(chamber.state(), (1, False, [], [], decided))


class TestKept(ChamberTest):

    def test_a_matter(self):
        chamber = chamber_behind([MATTER, "vote 1 0"])
        self.assert_same(chamber.state(), (1, False, [], [], [(1, "kept")]))
        self.assert_same(chamber.motion(1), ("matter", TEXT))

    def test_a_matter_as_it_is_now(self):
        chamber = chamber_behind([MATTER, "change cut 0", "vote 1 0", "vote 1 0", "matter / other", "change cut 0"])
        do_rows(chamber, ["vote 1 0"])
        self.assert_same(chamber.motion(1), ("matter", ["is kept"]))
        self.assert_same(chamber.motion(3), ("matter", []))

    def test_a_change(self):
        for row, text in [
            ("change put 0 now", ["now", "the old hall", "is kept"]),
            ("change put 1", ["the old hall", "", "is kept"]),
            ("change put 2 for ever", ["the old hall", "is kept", "for ever"]),
            ("change cut 0", ["is kept"]), ("change cut 1", ["the old hall"]),
            ("change turn 0 it", ["it", "is kept"]), ("change turn 1", ["the old hall", ""]),
        ]:
            with self.subTest(row=row):
                chamber = chamber_behind([MATTER, row, "vote 1 0"])
                self.assert_same(chamber.motion(1), ("matter", text))
                self.assert_same(chamber.state(), (1, False, [1], [], [(2, "kept")]))

    def test_a_mend(self):
        for row, thing in [
            ("mend put 0 now", "now one two"), ("mend put 1 now", "one now two"), ("mend put 2 now", "one two now"),
            ("mend cut 0", "two"), ("mend cut 1", "one"), ("mend turn 0 x", "x two"), ("mend turn 1 x", "one x"),
        ]:
            for kind in ("put", "turn"):
                with self.subTest(row=row, kind=kind):
                    chamber = chamber_behind([MATTER, f"change {kind} 1 one two", row, "vote 1 0"])
                    self.assert_same(chamber.motion(2), ("change", (kind, 1, thing)))
                    self.assert_same(chamber.motion(1), ("matter", TEXT))
                    self.assert_same(chamber.state(), (1, False, [1, 2], [], [(3, "kept")]))

    def test_a_mend_of_no_words_and_to_no_words(self):
        chamber = chamber_behind([MATTER, "change put 2", "mend put 0 now", "vote 1 0"])
        self.assert_same(chamber.motion(2), ("change", ("put", 2, "now")))
        do_rows(chamber, ["mend cut 0", "vote 1 0"])
        self.assert_same(chamber.motion(2), ("change", ("put", 2, "")))
        do_rows(chamber, ["vote 1 0"])
        self.assert_same(chamber.motion(1), ("matter", TEXT + [""]))

    def test_mends_behind_one_another_and_then_their_change(self):
        chamber = chamber_behind([MATTER, "change turn 0 a new hall", "mend turn 1 newer", "vote 1 0"])
        self.assert_same(chamber.motion(2), ("change", ("turn", 0, "a newer hall")))
        do_rows(chamber, ["mend put 3 here", "vote 0 1", "mend cut 0", "drop", "mend put 0 not", "vote 2 0"])
        self.assert_same(chamber.motion(2), ("change", ("turn", 0, "not a newer hall")))
        self.assert_same(chamber.motion(1), ("matter", TEXT))
        self.assert_same(chamber.kept_changes(1), [])
        do_rows(chamber, ["vote 1 0"])
        self.assert_same(chamber.motion(2), ("change", ("turn", 0, "not a newer hall")))
        self.assert_same(chamber.motion(1), ("matter", ["not a newer hall", "is kept"]))
        self.assert_same(chamber.kept_changes(1), [("turn", 0, "not a newer hall")])
        self.assert_same(chamber.first_text(1), TEXT)
        # The mends stay as they were made.
        self.assert_same(chamber.motion(3), ("mend", ("turn", 1, "newer")))
        self.assert_same(chamber.motion(6), ("mend", ("put", 0, "not")))

    def test_changes_behind_one_another(self):
        rows = ["change put 0 x", "vote 1 0", "change cut 2", "vote 1 0", "change turn 0 y", "vote 0 0",
                "change put 2 z", "vote 1 0", "change turn 1", "vote 5 4", "change cut 0", "drop"]
        chamber = chamber_behind([MATTER] + rows)
        kept = [("put", 0, "x"), ("cut", 2), ("put", 2, "z"), ("turn", 1, "")]
        self.assert_same(chamber.kept_changes(1), kept)
        self.assert_same(chamber.first_text(1), TEXT)
        self.assert_same(chamber.motion(1), ("matter", ["x", "", "z"]))
        self.assert_same(laid_all(TEXT, kept), ["x", "", "z"])

    def test_a_rest(self):
        self.assert_same(told_state(["rest", "vote 1 0"]), (2, False, [], [], [(1, "kept")]))
        self.assert_same(told_state(["rest", "vote 1 0"] * 5)[0], 6)
        rows = [MATTER, "change cut 0", "rest", "vote 1 0"]
        self.assert_same(told_state(rows), (2, False, [1, 2], [], [(3, "kept")]))

    def test_a_point_does_nothing_else(self):
        self.assert_same(told_state(["point a b", "vote 1 0"]), (1, False, [], [], [(1, "kept")]))
        chamber = chamber_behind([MATTER, "change cut 0", "close", "vote 1 0", "point", "vote 1 0"])
        self.assert_same(chamber.state(), (1, True, [1, 2], [], [(3, "kept"), (4, "kept")]))
        self.assert_same(chamber.motion(1), ("matter", TEXT))

    def test_a_change_that_waits_below_others_still_fits(self):
        # It is at the end of its text, and would not fit one that is shorter.
        rows = [MATTER, "change cut 1", "vote 1 0", "change turn 0 one two", "mend put 2 three"]
        above = [
            "put off 4", "close", "vote 3 1", "lay", "vote 0 1", "rest", "vote 1 0", "point", "vote 1 0", "lay", "drop",
        ]
        chamber = chamber_behind(rows + above)
        self.assert_same(chamber.state()[1:3], (True, [1, 3, 4, 5]))
        do_rows(chamber, ["drop"])
        self.assert_same(do_rows(chamber, ["vote 1 0", "vote 1 0"]), ["kept", "kept"])
        self.assert_same(chamber.motion(1), ("matter", ["one two three"]))
        self.assert_same(chamber.motion(3), ("change", ("turn", 0, "one two three")))


class TestLost(ChamberTest):

    def test_what_is_lost_or_dropped_does_nothing(self):
        below = [MATTER, "change put 1 a b"]
        for row in ("mend cut 0", "mend put 0 x", "put off 7", "close", "lay", "rest", "point x"):
            for ending, word in (("vote 1 1", "lost"), ("vote 0 9", "lost"), ("vote 0 0", "lost"), ("drop", "dropped")):
                with self.subTest(row=row, ending=ending):
                    chamber = chamber_behind(below + [row])
                    kinds = chamber_behind(below).in_order()
                    self.assert_same(do_rows(chamber, [ending]), [word])
                    self.assert_same(chamber.state(), (1, False, [1, 2], [], [(3, word)]))
                    self.assert_same(chamber.motion(1), ("matter", TEXT))
                    self.assert_same(chamber.motion(2), ("change", ("put", 1, "a b")))
                    self.assert_same(chamber.in_order(), kinds)

    def test_a_lost_or_dropped_change(self):
        for row in ("change put 0 a", "change cut 1", "change turn 0"):
            for ending in ("vote 1 1", "vote 0 0", "drop"):
                with self.subTest(row=row, ending=ending):
                    chamber = chamber_behind([MATTER, row, ending])
                    self.assert_same(chamber.motion(1), ("matter", TEXT))
                    self.assert_same(chamber.kept_changes(1), [])
                    self.assert_same(chamber.first_text(1), TEXT)

    def test_a_lost_close_of_more_but_not_two_thirds(self):
        chamber = chamber_behind([MATTER, "close", "vote 5 3"])
        self.assert_same(chamber.state(), (1, False, [1], [], [(2, "lost")]))
        self.assertIn("change", chamber.in_order())


class TestDrop(ChamberTest):

    def test_nothing_is_pending(self):
        for rows in ([], ["point", "drop"], [MATTER, "vote 0 1"], [MATTER, "put off 2", "vote 1 0"]):
            with self.subTest(rows=rows):
                chamber = chamber_behind(rows)
                self.assert_deed_refused(chamber, Nothing, None, chamber.drop)

    def test_the_top_alone(self):
        chamber = chamber_behind([MATTER, "change put 0 a", "point"])
        self.assert_same(chamber.drop(), "dropped")
        self.assert_same(chamber.state(), (1, False, [1, 2], [], [(3, "dropped")]))
        self.assert_same(chamber.drop(), "dropped")
        self.assert_same(chamber.drop(), "dropped")
        self.assert_same(chamber.state(), (1, False, [], [], [(3, "dropped"), (2, "dropped"), (1, "dropped")]))


class TestClosed(ChamberTest):

    CLOSED = [MATTER, "change put 0 a b", "close", "vote 4 2"]

    def test_a_kept_close(self):
        chamber = chamber_behind(self.CLOSED)
        self.assert_same(chamber.state(), (1, True, [1, 2], [], [(3, "kept")]))
        self.assert_same(chamber.in_order(), ["lay", "rest", "point"])

    def test_it_stays_while_something_is_pending(self):
        for rows in (
            ["vote 1 0"], ["vote 0 1"], ["drop"], ["rest", "vote 1 0"], ["point"], ["point", "vote 1 0"], ["lay"],
            ["lay", "vote 1 1"], ["lay", "drop"], ["lay", "rest", "vote 1 0", "drop"], ["rest", "drop", "vote 1 0"],
        ):
            with self.subTest(rows=rows):
                chamber = chamber_behind(self.CLOSED + rows)
                self.assertIs(chamber.state()[1], True)
                self.assertNotIn("put off", chamber.in_order())

    def test_it_is_open_again_where_the_pile_is_empty(self):
        for rows in (["vote 1 0", "vote 1 0"], ["drop", "vote 0 1"], ["drop", "drop"], ["vote 0 0", "drop"],
                     ["lay", "vote 1 0"], ["drop", "lay", "vote 1 0"]):
            with self.subTest(rows=rows):
                chamber = chamber_behind(self.CLOSED + rows)
                self.assert_same(chamber.state()[1:3], (False, []))
                self.assert_same(chamber.in_order(), ["matter", "rest", "point"])
                chamber.move(("matter", ["b"]))
                self.assertIn("change", chamber.in_order())

    def test_it_is_open_again_behind_a_put_off(self):
        # A put off that waits below a close is on top again behind it.
        chamber = chamber_behind([MATTER, "put off 3", "close", "vote 1 0"])
        self.assert_same(chamber.state()[1:3], (True, [1, 2]))
        do_rows(chamber, ["vote 1 0"])
        self.assert_same(chamber.state(), (1, False, [], [(1, 3, [1])], [(3, "kept"), (2, "kept")]))
        self.assert_same(chamber.in_order(), ["matter", "rest", "point"])


if __name__ == "__main__":
    unittest.main()
