"""Points 2, 3, 19, 20 and 22: what a chamber tells, and what holds behind every deed."""

import copy
import random
import unittest

from helper import ChamberTest, chamber_behind, do_rows, numbers_of, picture
from moot.edits import fits, laid_all, words_of
from moot.errors import (
    Barred, ChamberError, NoAside, NoChange, NoFit, NoMatter, NoNumber, Nothing, NotLater, NotYet, TooMany,
)
from moot.house import Chamber
from moot.replay import do_deed, replay
from moot.rows import show_deed

# Each row, what it tells, and the state behind it.
STORY = [
    ("matter / the old hall / is kept", 1, (1, False, [1], [], [])),
    ("change turn 0 a new hall", 2, (1, False, [1, 2], [], [])),
    ("mend turn 1 newer", 3, (1, False, [1, 2, 3], [], [])),
    ("point of order", 4, (1, False, [1, 2, 3, 4], [], [])),
    ("vote 2 2", "lost", (1, False, [1, 2, 3], [], [(4, "lost")])),
    ("vote 3 2", "kept", (1, False, [1, 2], [], [(4, "lost"), (3, "kept")])),
    ("put off 2", 5, (1, False, [1, 2, 5], [], [(4, "lost"), (3, "kept")])),
    ("vote 1 0", "kept", (1, False, [], [(1, 2, [1, 2])], [(4, "lost"), (3, "kept"), (5, "kept")])),
    ("matter", 6, (1, False, [6], [(1, 2, [1, 2])], [(4, "lost"), (3, "kept"), (5, "kept")])),
    ("close", 7, (1, False, [6, 7], [(1, 2, [1, 2])], [(4, "lost"), (3, "kept"), (5, "kept")])),
    ("vote 2 1", "kept", (1, True, [6], [(1, 2, [1, 2])], [(4, "lost"), (3, "kept"), (5, "kept"), (7, "kept")])),
    ("lay", 8, (1, True, [6, 8], [(1, 2, [1, 2])], [(4, "lost"), (3, "kept"), (5, "kept"), (7, "kept")])),
    ("vote 1 0", "kept", (1, False, [], [(1, 2, [1, 2]), (6, 1, [6])],
                          [(4, "lost"), (3, "kept"), (5, "kept"), (7, "kept"), (8, "kept")])),
    ("rest", 9, (1, False, [9], [(1, 2, [1, 2]), (6, 1, [6])],
                 [(4, "lost"), (3, "kept"), (5, "kept"), (7, "kept"), (8, "kept")])),
    ("vote 1 0", "kept", (2, False, [], [(1, 2, [1, 2]), (6, 1, [6])],
                          [(4, "lost"), (3, "kept"), (5, "kept"), (7, "kept"), (8, "kept"), (9, "kept")])),
    ("take 1", 1, (2, False, [1, 2], [(6, 1, [6])],
                   [(4, "lost"), (3, "kept"), (5, "kept"), (7, "kept"), (8, "kept"), (9, "kept")])),
    ("vote 5 0", "kept", (2, False, [1], [(6, 1, [6])],
                          [(4, "lost"), (3, "kept"), (5, "kept"), (7, "kept"), (8, "kept"), (9, "kept"), (2, "kept")])),
    ("drop", "dropped", (2, False, [], [(6, 1, [6])],
                         [(4, "lost"), (3, "kept"), (5, "kept"), (7, "kept"), (8, "kept"), (9, "kept"), (2, "kept"),
                          (1, "dropped")])),
]
ROWS = [row for row, told, state in STORY]
MOTIONS = {
    1: ("matter", ["a newer hall", "is kept"]), 2: ("change", ("turn", 0, "a newer hall")),
    3: ("mend", ("turn", 1, "newer")), 4: ("point", "of order"), 5: ("put off", 2), 6: ("matter", []), 7: ("close",),
    8: ("lay",), 9: ("rest",),
}


class TestState(ChamberTest):

    def test_behind_each_deed(self):
        chamber = Chamber(5)
        for place, (row, told, state) in enumerate(STORY):
            with self.subTest(row=row, place=place):
                self.assert_same(do_rows(chamber, [row]), [told])
                self.assert_same(chamber.state(), state)
                self.assert_same(chamber.minutes(), ROWS[:place + 1])

    def test_asking_changes_nothing(self):
        chamber = Chamber(5)
        for row in ROWS:
            do_rows(chamber, [row])
            before = picture(chamber)
            self.assert_same(picture(chamber), before)


class TestNumbers(ChamberTest):

    def test_motions_as_they_are_now(self):
        chamber = chamber_behind(ROWS)
        for number, told in MOTIONS.items():
            with self.subTest(number=number):
                self.assert_same(chamber.motion(number), told)

    def test_matters(self):
        chamber = chamber_behind(ROWS)
        self.assert_same(chamber.first_text(1), ["the old hall", "is kept"])
        self.assert_same(chamber.kept_changes(1), [("turn", 0, "a newer hall")])
        self.assert_same(chamber.first_text(6), [])
        self.assert_same(chamber.kept_changes(6), [])

    def test_numbers_that_there_are_not(self):
        for rows, last in (([], 0), (["point"], 1), (ROWS, 9)):
            for number in (0, -1, -2, -last, -last - 1, last + 1, last + 2, 10 ** 10):
                chamber = chamber_behind(rows)
                if number in range(1, last + 1):
                    continue
                for ask in (chamber.motion, chamber.kept_changes, chamber.first_text):
                    with self.subTest(rows=rows, number=number, ask=ask.__name__):
                        self.assert_deed_refused(chamber, NoNumber, None, ask, number)

    def test_a_refused_motion_has_no_number(self):
        chamber = chamber_behind(["matter / a"])
        self.assert_refused(NoFit, None, chamber.move, ("change", ("cut", 1)))
        self.assert_refused(NoNumber, None, chamber.motion, 2)

    def test_motions_that_are_no_matters(self):
        chamber = chamber_behind(ROWS)
        for number, told in MOTIONS.items():
            if told[0] != "matter":
                with self.subTest(number=number):
                    self.assert_deed_refused(chamber, NoNumber, None, chamber.kept_changes, number)
                    self.assert_deed_refused(chamber, NoNumber, None, chamber.first_text, number)

    def test_two_matters_keep_their_own(self):
        chamber = chamber_behind(["matter / a", "change put 1 b", "vote 1 0", "lay", "vote 1 0", "matter / c"])
        do_rows(chamber, ["change cut 0", "vote 1 0", "vote 1 0", "take 1", "change turn 0 d", "vote 1 0"])
        self.assert_same(chamber.motion(1), ("matter", ["d", "b"]))
        self.assert_same(chamber.kept_changes(1), [("put", 1, "b"), ("turn", 0, "d")])
        self.assert_same(chamber.first_text(1), ["a"])
        self.assert_same(chamber.motion(4), ("matter", []))
        self.assert_same(chamber.kept_changes(4), [("cut", 0)])
        self.assert_same(chamber.first_text(4), ["c"])

    def test_texts_that_grow_beyond(self):
        chamber = chamber_behind(["matter" + " / n" * 100, "change put 100 " + "n " * 1900 + "n"])
        for place in range(30):
            do_rows(chamber, ["mend put 0 " + "m" * 20, "vote 1 0"])
        thing = ("m" * 20 + " ") * 30 + "n " * 1900 + "n"
        self.assert_same(chamber.motion(2), ("change", ("put", 100, thing)))
        do_rows(chamber, ["vote 1 0"])
        self.assert_same(chamber.motion(1), ("matter", ["n"] * 100 + [thing]))


def lists_in(told):
    """All lists in what is told, that itself among them."""
    found = [told] if isinstance(told, list) else []
    if isinstance(told, (list, tuple)):
        for part in told:
            found += lists_in(part)
    return found


class TestOwnLists(ChamberTest):

    def asks(self, chamber):
        asks = [chamber.state, chamber.in_order, chamber.minutes]
        for number in numbers_of(chamber):
            asks.append(lambda number=number: chamber.motion(number))
            if chamber.motion(number)[0] == "matter":
                asks.append(lambda number=number: chamber.kept_changes(number))
                asks.append(lambda number=number: chamber.first_text(number))
        return asks

    def test_what_is_told_is_the_askers_own(self):
        for many in range(len(ROWS) + 1):
            chamber = chamber_behind(ROWS[:many])
            before = copy.deepcopy(picture(chamber))
            for place, ask in enumerate(self.asks(chamber)):
                for spoil in (list.clear, lambda told: told.append("more"), lambda told: told.insert(0, 7)):
                    with self.subTest(many=many, place=place):
                        told = lists_in(ask())
                        self.assertEqual(len({id(one) for one in told}), len(told))
                        for one in told:
                            spoil(one)
                        self.assert_same(picture(chamber), before)

    def test_what_was_told_stays_when_it_goes_on(self):
        chamber = chamber_behind([])
        told, kept = [], []
        for row in ROWS:
            do_rows(chamber, [row])
            told.append(picture(chamber))
            kept.append(copy.deepcopy(told[-1]))
        self.assert_same(told, kept)

    def test_what_goes_on_behind_a_spoilt_answer(self):
        chamber = chamber_behind([])
        for row in ROWS:
            for ask in self.asks(chamber):
                for one in lists_in(ask()):
                    one.clear()
            do_rows(chamber, [row])
        self.assert_same(picture(chamber), picture(chamber_behind(ROWS)))

    def test_what_is_handed_in_is_kept_as_a_copy(self):
        for spoil in (list.clear, lambda text: text.append("more"), lambda text: text.reverse()):
            text = ["a", "b"]
            chamber = Chamber(3)
            chamber.move(("matter", text))
            self.assert_same(text, ["a", "b"])
            spoil(text)
            self.assert_same(chamber.motion(1), ("matter", ["a", "b"]))
            self.assert_same(chamber.first_text(1), ["a", "b"])
            self.assert_same(chamber.minutes(), ["matter / a / b"])

    def test_what_is_handed_in_is_not_changed(self):
        text = ["a", "b"]
        chamber = Chamber(3)
        chamber.move(("matter", text))
        do_rows(chamber, ["change cut 0", "vote 1 0", "change put 0 c", "vote 1 0"])
        self.assert_same(text, ["a", "b"])
        self.assert_refused(Barred, 0, chamber.move, ("matter", text))
        self.assert_same(text, ["a", "b"])


class TestMinutes(ChamberTest):

    def test_none_of_what_is_refused(self):
        chamber = chamber_behind(["matter / a", "lay", "vote 1 0", "matter / b", "put off 2", "vote 1 0"], 3)
        rows = chamber.minutes()
        for refusal, value, deed in [
            (NoMatter, None, ("change", ("cut", 0))), (NoMatter, None, ("close",)), (Nothing, None, ("vote", 1, 0)),
            (Nothing, None, ("drop",)), (NoAside, None, ("take", 2)), (NotYet, 2, ("take", 3)),
        ]:
            self.assert_refused(refusal, value, do_deed, chamber, deed)
        do_rows(chamber, ["take 1"])
        for refusal, value, deed in [
            (Barred, 0, ("matter", [])), (Barred, 0, ("take", 1)), (NoChange, None, ("mend", ("cut", 0))),
            (NoFit, None, ("change", ("cut", 1))), (NotLater, 1, ("put off", 1)), (TooMany, None, ("vote", 2, 2)),
        ]:
            self.assert_refused(refusal, value, do_deed, chamber, deed)
        self.assert_same(chamber.minutes(), rows + ["take 1"])

    def test_as_it_was_done_not_as_it_is_now(self):
        rows = ["matter / a / b", "change put 0 c d", "mend cut 0", "vote 3 1", "vote 2 1", "vote 1 0"]
        chamber = chamber_behind(rows)
        self.assert_same(chamber.motion(1), ("matter", ["d", "a", "b"]))
        self.assert_same(chamber.minutes(), rows)

    def test_votes_as_they_were_given(self):
        rows = ["point", "vote 5 4", "point", "vote 0 0", "point", "vote 0 9", "point", "drop"]
        self.assert_same(chamber_behind(rows).minutes(), rows)


KINDS = ["matter", "change", "mend", "put off", "close", "lay", "rest", "point"]
LACKS = (Barred, NoMatter, NoChange)


class Walk:
    """A chamber that is told one deed after the other, as a source of numbers bids."""

    def __init__(self, seed):
        self.source = random.Random(seed)
        self.chamber = Chamber(6)

    def edit(self, things):
        word = self.source.choice(["put", "cut", "turn"])
        place = self.source.choice([0, 0, 0, 1, 1, 2, 3, -1])
        return (word, place) if word == "cut" else (word, place, self.source.choice(things))

    def motion(self, kind):
        return {
            "matter": ("matter", [self.source.choice(["", "a", "b c"]) for place in range(self.source.randint(0, 4))]),
            "change": ("change", self.edit(["", "d", "e f", "g h i"])),
            "mend": ("mend", self.edit(["w", "x", "y"])),
            "put off": ("put off", self.chamber.state()[0] + self.source.randint(-1, 2)),
            "point": ("point", self.source.choice(["", "of order"])),
        }.get(kind, (kind,))

    def low(self, things):
        """One of the things, more often one of the first: low ranks leave room for others above them."""
        return things[min(self.source.randrange(len(things)) for time in range(6))]

    def deed(self):
        chance = self.source.randrange(12)
        aside = [number for number, until, numbers in self.chamber.state()[3]]
        kinds = self.chamber.in_order()
        if chance < 4 or not kinds:
            return ("vote", self.source.randint(0, 5), self.source.randint(0, 2))
        if chance == 4:
            return self.source.choice([("drop",), self.motion(self.source.choice(KINDS))])
        if chance == 5:
            return ("take", self.source.choice([0, 1] + aside * 3))
        return self.motion(self.low(kinds))


class TestPromise(ChamberTest):

    def check_every_motion_stands_once(self, chamber, many):
        self.assertEqual(numbers_of(chamber), list(range(1, many + 1)))

    def check_texts(self, chamber):
        for number in numbers_of(chamber):
            told = chamber.motion(number)
            if told[0] == "matter":
                text = laid_all(chamber.first_text(number), chamber.kept_changes(number))
                self.assert_same(told[1], text)

    def check_what_waits_fits(self, chamber):
        state = chamber.state()
        for pile in [state[2]] + [numbers for number, until, numbers in state[3]]:
            motions = [chamber.motion(number) for number in pile]
            for below, above in zip(motions, motions[1:]):
                if above[0] == "change":
                    self.assertTrue(fits(below[1], above[1]))
                if above[0] == "mend":
                    self.assertTrue(fits(words_of(below[1][2]), above[1]))

    def check_what_is_in_order(self, walk):
        """Just the kinds that are told to be in order can be made."""
        kinds = walk.chamber.in_order()
        for kind in KINDS:
            try:
                copy.deepcopy(walk.chamber).move(walk.motion(kind))
            except LACKS:
                self.assertNotIn(kind, kinds)
            except (NoFit, NotLater):
                self.assertIn(kind, kinds)
            else:
                self.assertIn(kind, kinds)

    def check_walk(self, seed):
        walk, decided, many, rows = Walk(seed), [], 0, []
        for step in range(100):
            deed, before = walk.deed(), picture(walk.chamber)
            try:
                told = do_deed(walk.chamber, deed)
            except ChamberError:
                self.assert_same(picture(walk.chamber), before)
                continue
            rows.append(show_deed(deed))
            if deed[0] in KINDS:
                many = many + 1
                self.assert_same(told, many)
            # What is decided stays, and is decided once.
            self.assert_same(walk.chamber.state()[4][:len(decided)], decided)
            decided = walk.chamber.state()[4]
            self.check_every_motion_stands_once(walk.chamber, many)
            self.check_texts(walk.chamber)
            self.check_what_waits_fits(walk.chamber)
            self.check_what_is_in_order(walk)
            self.assert_same(walk.chamber.minutes(), rows)
        self.assert_same(picture(replay(6, rows)), picture(walk.chamber))
        return {deed.split(" ")[0] for deed in rows}

    def test_on_many_walks(self):
        done = set()
        for seed in range(20):
            with self.subTest(seed=seed):
                done |= self.check_walk(seed)
        self.assertEqual(len(done), 11)


if __name__ == "__main__":
    unittest.main()
