"""Point 9: when a vote is more, and when it is two thirds."""

import unittest

from moot.motions import Change, Close, Lay, Matter, Mend, Point, PutOff, Rest
from moot.votes import is_kept

MANY = 10 ** 60

# Ayes, noes, whether that is more, whether that is two thirds.
VOTES = [
    (0, 0, False, False),
    (1, 0, True, True), (2, 0, True, True), (10 ** 9, 0, True, True),
    (0, 1, False, False), (0, 2, False, False), (0, 10 ** 9, False, False),
    (1, 1, False, False), (2, 1, True, True), (3, 1, True, True), (1, 2, False, False),
    (2, 2, False, False), (3, 2, True, False), (4, 2, True, True), (5, 2, True, True),
    (2, 3, False, False), (4, 3, True, False), (5, 3, True, False), (6, 3, True, True), (7, 3, True, True),
    (66, 34, True, False), (67, 33, True, True), (66, 33, True, True), (65, 33, True, False),
    (50, 50, False, False), (51, 50, True, False), (49, 50, False, False),
    (MANY, 0, True, True), (0, MANY, False, False), (MANY, MANY, False, False),
    (MANY + 1, MANY, True, False), (MANY - 1, MANY, False, False),
    (2 * MANY, MANY, True, True), (2 * MANY + 1, MANY, True, True), (2 * MANY - 1, MANY, True, False),
]


class TestIsKept(unittest.TestCase):

    def test_written_out(self):
        for ayes, noes, more, two_thirds in VOTES:
            with self.subTest(ayes=ayes, noes=noes):
                self.assertIs(is_kept("more", ayes, noes), more)
                self.assertIs(is_kept("two thirds", ayes, noes), two_thirds)

    def test_all_small_votes(self):
        for noes in range(30):
            for ayes in range(70):
                with self.subTest(ayes=ayes, noes=noes):
                    more = ayes - noes > 0
                    self.assertIs(is_kept("more", ayes, noes), more)
                    # Of all votes two in three are ayes at the least, told another way round.
                    self.assertIs(is_kept("two thirds", ayes, noes), more and 3 * ayes >= 2 * (ayes + noes))

    def test_by_what_motions_need(self):
        edit = ("put", 0, "a")
        others = [Matter([]), Change(edit), Mend(edit), PutOff(2), Lay(), Rest(), Point("")]
        for motion in others:
            with self.subTest(kind=motion.kind()):
                self.assertIs(is_kept(motion.need(), 3, 2), True)
                self.assertIs(is_kept(motion.need(), 2, 2), False)
        self.assertIs(is_kept(Close().need(), 3, 2), False)
        self.assertIs(is_kept(Close().need(), 4, 2), True)


if __name__ == "__main__":
    unittest.main()
