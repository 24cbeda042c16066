"""What several files of tests need: chambers brought to a moment, and all that a chamber tells."""

import unittest

from moot.errors import ChamberError
from moot.house import Chamber
from moot.replay import do_deed
from moot.rows import read_deed


def do_rows(chamber, rows):
    """Does the deeds of the rows, and tells what each one tells."""
    return [do_deed(chamber, read_deed(row)) for row in rows]


def chamber_behind(rows, seats=9):
    chamber = Chamber(seats)
    do_rows(chamber, rows)
    return chamber


def numbers_of(chamber):
    """The numbers of all motions, found in what is pending, aside and decided."""
    sitting, closed, pile, aside, decided = chamber.state()
    return sorted(pile + [number for one in aside for number in one[2]] + [number for number, word in decided])


def picture(chamber):
    """All that a chamber tells."""
    motions = {number: chamber.motion(number) for number in numbers_of(chamber)}
    matters = [number for number in motions if motions[number][0] == "matter"]
    return (
        chamber.state(), chamber.in_order(), motions, chamber.minutes(),
        {number: (chamber.first_text(number), chamber.kept_changes(number)) for number in matters},
    )


class ChamberTest(unittest.TestCase):

    def assert_same(self, one, other):
        """Alike in values and in kinds: no list for a tuple, no truth for a number."""
        self.assertIs(type(one), type(other))
        self.assertEqual(one, other)
        if isinstance(one, (list, tuple)):
            for part, other_part in zip(one, other):
                self.assert_same(part, other_part)

    def assert_refused(self, refusal, value, ask, *handed):
        """Refused with this very class, and with this value, where the class has one."""
        with self.assertRaises(ChamberError) as caught:
            ask(*handed)
        self.assertIs(type(caught.exception), refusal)
        for name in ("bar", "sitting", "row", "name"):
            if hasattr(caught.exception, name):
                self.assert_same(getattr(caught.exception, name), value)
                return
        self.assertIsNone(value)

    def assert_deed_refused(self, chamber, refusal, value, ask, *handed):
        """The same, and nothing that the chamber tells is changed by it."""
        before = picture(chamber)
        self.assert_refused(refusal, value, ask, *handed)
        self.assert_same(picture(chamber), before)
