"""Points 2, 8 and 9: the eight kinds of motions."""

import unittest

from moot.motions import Change, Close, Lay, Matter, Mend, Motion, Point, PutOff, Rest, motion_of

CLASSES = [Matter, Change, Mend, PutOff, Close, Lay, Rest, Point]

# The class, what it is made with, the kind, the rank, the need.
CASES = [
    (Matter, [["a b", "", "c"]], "matter", 0, "more"),
    (Matter, [[]], "matter", 0, "more"),
    (Matter, [[""]], "matter", 0, "more"),
    (Matter, [["n"] * 100], "matter", 0, "more"),
    (Change, [("put", 0, "a b")], "change", 1, "more"),
    (Change, [("put", 3, "")], "change", 1, "more"),
    (Change, [("cut", 1)], "change", 1, "more"),
    (Change, [("turn", -1, "c")], "change", 1, "more"),
    (Mend, [("put", 0, "a")], "mend", 2, "more"),
    (Mend, [("cut", 2)], "mend", 2, "more"),
    (Mend, [("turn", 1, "b")], "mend", 2, "more"),
    (PutOff, [1], "put off", 3, "more"),
    (PutOff, [10 ** 9 - 1], "put off", 3, "more"),
    (Close, [], "close", 4, "two thirds"),
    (Lay, [], "lay", 5, "more"),
    (Rest, [], "rest", 6, "more"),
    (Point, ["a b"], "point", 7, "more"),
    (Point, [""], "point", 7, "more"),
]


class TestKinds(unittest.TestCase):

    def check(self, motion, case):
        wanted, given, kind, rank, need = case
        self.assertIs(type(motion), wanted)
        self.assertIsInstance(motion, Motion)
        self.assertEqual(motion.kind(), kind)
        self.assertEqual(motion.rank(), rank)
        self.assertIs(type(motion.rank()), int)
        self.assertEqual(motion.need(), need)
        self.assertIs(type(motion.told()), tuple)
        self.assertEqual(motion.told(), tuple([kind] + given))

    def test_made_by_its_class(self):
        for case in CASES:
            with self.subTest(case=case[2], given=case[1]):
                self.check(case[0](*case[1]), case)

    def test_made_by_its_tuple(self):
        for case in CASES:
            with self.subTest(case=case[2], given=case[1]):
                self.check(motion_of(tuple([case[2]] + case[1])), case)

    def test_what_is_told_makes_the_same_again(self):
        for case in CASES:
            with self.subTest(case=case[2], given=case[1]):
                self.check(motion_of(case[0](*case[1]).told()), case)

    def test_every_class_is_among_the_cases(self):
        self.assertEqual({case[0] for case in CASES}, set(CLASSES))
        self.assertEqual({case[3] for case in CASES}, set(range(8)))

    def test_none_stands_under_another(self):
        for one in CLASSES:
            self.assertTrue(issubclass(one, Motion))
            self.assertIsNot(one, Motion)
            for other in CLASSES:
                if one is not other:
                    with self.subTest(one=one.__name__, other=other.__name__):
                        self.assertFalse(issubclass(one, other))


class TestOwnLists(unittest.TestCase):

    def test_the_text_that_was_handed_in_is_not_kept_itself(self):
        for make in (Matter, lambda text: motion_of(("matter", text))):
            text = ["a", "b"]
            motion = make(text)
            text.append("c")
            self.assertEqual(motion.told(), ("matter", ["a", "b"]))
            text.clear()
            self.assertEqual(motion.told(), ("matter", ["a", "b"]))

    def test_the_text_that_was_handed_in_stays(self):
        for make in (Matter, lambda text: motion_of(("matter", text))):
            text = ["a", "b"]
            make(text).told()[1].clear()
            self.assertEqual(text, ["a", "b"])

    def test_the_text_that_is_told_is_the_askers_own(self):
        for motion in (Matter(["a", "b"]), motion_of(("matter", ["a", "b"]))):
            told = motion.told()
            self.assertIs(type(told[1]), list)
            told[1].append("c")
            self.assertEqual(motion.told(), ("matter", ["a", "b"]))
            told[1].clear()
            self.assertEqual(motion.told(), ("matter", ["a", "b"]))
            self.assertIsNot(motion.told()[1], motion.told()[1])

    def test_two_matters_made_of_one_told_are_apart(self):
        told = Matter(["a"]).told()
        one, other = motion_of(told), motion_of(told)
        one.told()[1].append("b")
        told[1].append("c")
        self.assertEqual((one.told(), other.told()), (("matter", ["a"]), ("matter", ["a"])))


if __name__ == "__main__":
    unittest.main()
