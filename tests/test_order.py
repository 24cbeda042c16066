"""Points 2, 10 and 11: the bar of a pile, and the kinds that are in order."""

import unittest

from moot.motions import Change, Close, Lay, Matter, Mend, Point, PutOff, Rest
from moot.order import bar_of, kinds_in_order

MATTER = Matter(["a b", "c"])
PUT, CUT, TURN = Change(("put", 0, "a b")), Change(("cut", 0)), Change(("turn", 1, ""))
MEND, CUT_MEND = Mend(("put", 0, "x")), Mend(("cut", 0))
OFF, CLOSE, LAY, REST, POINT = PutOff(2), Close(), Lay(), Rest(), Point("a b")

# The pile, its bar, the kinds in order; the debate is not closed.
NOT_CLOSED = [
    ([], -1, ["matter", "rest", "point"]),
    ([MATTER], 0, ["change", "put off", "close", "lay", "rest", "point"]),
    ([Matter([])], 0, ["change", "put off", "close", "lay", "rest", "point"]),
    ([MATTER, PUT], 1, ["mend", "put off", "close", "lay", "rest", "point"]),
    ([MATTER, CUT], 1, ["put off", "close", "lay", "rest", "point"]),
    ([MATTER, TURN], 1, ["mend", "put off", "close", "lay", "rest", "point"]),
    ([MATTER, PUT, MEND], 2, ["put off", "close", "lay", "rest", "point"]),
    ([MATTER, TURN, CUT_MEND], 2, ["put off", "close", "lay", "rest", "point"]),
    ([MATTER, OFF], 3, ["close", "lay", "rest", "point"]),
    ([MATTER, PUT, OFF], 3, ["close", "lay", "rest", "point"]),
    ([MATTER, CLOSE], 4, ["lay", "rest", "point"]),
    ([MATTER, TURN, MEND, CLOSE], 4, ["lay", "rest", "point"]),
    ([MATTER, LAY], 5, ["rest", "point"]),
    ([MATTER, CUT, OFF, CLOSE, LAY], 5, ["rest", "point"]),
    ([MATTER, REST], 6, ["point"]),
    ([MATTER, PUT, REST], 6, ["point"]),
    ([MATTER, POINT], 7, []),
    ([MATTER, PUT, MEND, OFF, CLOSE, LAY, REST, POINT], 7, []),
    ([REST], 6, ["point"]),
    ([POINT], 7, []),
    ([REST, POINT], 7, []),
]

# The same, where the debate is closed: a matter lies at the bottom then.
CLOSED = [
    ([MATTER], 4, ["lay", "rest", "point"]),
    ([MATTER, PUT], 4, ["lay", "rest", "point"]),
    ([MATTER, CUT], 4, ["lay", "rest", "point"]),
    ([MATTER, TURN], 4, ["lay", "rest", "point"]),
    ([MATTER, PUT, MEND], 4, ["lay", "rest", "point"]),
    ([MATTER, OFF], 4, ["lay", "rest", "point"]),
    ([MATTER, CLOSE], 4, ["lay", "rest", "point"]),
    ([MATTER, LAY], 5, ["rest", "point"]),
    ([MATTER, PUT, LAY], 5, ["rest", "point"]),
    ([MATTER, REST], 6, ["point"]),
    ([MATTER, TURN, MEND, OFF, LAY, REST], 6, ["point"]),
    ([MATTER, POINT], 7, []),
    ([MATTER, PUT, MEND, POINT], 7, []),
]

# Without a matter below, these lack what close and lay ask for.
WITHOUT_MATTER = [
    ([OFF], 3, ["rest", "point"]),
    ([CLOSE], 4, ["rest", "point"]),
    ([LAY], 5, ["rest", "point"]),
]

CASES = (
    [(pile, False, bar, kinds) for pile, bar, kinds in NOT_CLOSED + WITHOUT_MATTER]
    + [(pile, True, bar, kinds) for pile, bar, kinds in CLOSED]
)


def names(pile):
    return [motion.told() for motion in pile]


class TestBar(unittest.TestCase):

    def test_written_out(self):
        for pile, closed, bar, kinds in CASES:
            with self.subTest(pile=names(pile), closed=closed):
                told = bar_of(list(pile), closed)
                self.assertIs(type(told), int)
                self.assertEqual(told, bar)

    def test_each_kind_is_on_top_closed_and_not_closed(self):
        for cases in (NOT_CLOSED, CLOSED):
            tops = {pile[-1].kind() for pile, bar, kinds in cases if pile}
            self.assertEqual(len(tops), 8)

    def test_the_pile_stays(self):
        for pile, closed, bar, kinds in CASES:
            handed = list(pile)
            bar_of(handed, closed)
            with self.subTest(pile=names(pile), closed=closed):
                self.assertEqual(handed, pile)


class TestKindsInOrder(unittest.TestCase):

    def test_written_out(self):
        for pile, closed, bar, kinds in CASES:
            with self.subTest(pile=names(pile), closed=closed):
                told = kinds_in_order(list(pile), closed)
                self.assertIs(type(told), list)
                self.assertEqual(told, kinds)

    def test_what_is_told_is_the_askers_own(self):
        for pile, closed, bar, kinds in CASES:
            with self.subTest(pile=names(pile), closed=closed):
                handed = list(pile)
                told = kinds_in_order(handed, closed)
                told.clear()
                self.assertEqual(kinds_in_order(handed, closed), kinds)
                told.append("matter")
                again = kinds_in_order(handed, closed)
                self.assertEqual(again, kinds)
                self.assertIsNot(again, told)

    def test_the_pile_and_its_motions_stay(self):
        for pile, closed, bar, kinds in CASES:
            with self.subTest(pile=names(pile), closed=closed):
                handed, before = list(pile), names(pile)
                kinds_in_order(handed, closed).clear()
                self.assertEqual(handed, pile)
                self.assertEqual(names(handed), before)

    def test_what_is_done_to_the_pile_behind_changes_nothing(self):
        pile = [MATTER, PUT]
        told = kinds_in_order(pile, False)
        pile.clear()
        self.assertEqual(told, ["mend", "put off", "close", "lay", "rest", "point"])
        self.assertEqual(kinds_in_order(pile, False), ["matter", "rest", "point"])


if __name__ == "__main__":
    unittest.main()
