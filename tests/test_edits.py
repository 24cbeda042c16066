"""Points 2 and 4 to 7: edits of lists, and the words of clauses."""

import unittest

from moot.edits import clause_of, fits, laid, laid_all, way_back, words_of
from moot.errors import ChamberError, NoFit

# Things that stand twice show whether an edit goes by the place or by the thing.
LISTS = [[], ["a"], [""], ["a", "b"], ["a", "a"], ["a", "b", "c"], ["b", "a", "b", ""], ["n"] * 400]
FAR = 10 ** 12


def places_about(things):
    near = range(-3, len(things) + 4) if len(things) < 10 else [-400, -1, 0, 1, 199, 398, 399, 400, 401]
    return list(near) + [-FAR, FAR]


def edits_about(things):
    edits = []
    for place in places_about(things):
        for thing in ("x", "a", ""):
            edits += [("put", place, thing), ("turn", place, thing)]
        edits.append(("cut", place))
    return edits


def should_fit(things, edit):
    if edit[0] == "put":
        return edit[1] in range(len(things) + 1)
    return edit[1] in range(len(things))


def should_be_laid(things, edit):
    place = edit[1]
    middle = [] if edit[0] == "cut" else [edit[2]]
    rest = things[place:] if edit[0] == "put" else things[place + 1:]
    return things[:place] + middle + rest


def all_cases():
    return [(things, edit) for things in LISTS for edit in edits_about(things)]


class TestFits(unittest.TestCase):

    def test_written_out(self):
        for things, edit, told in [
            ([], ("put", 0, "x"), True), ([], ("put", 1, "x"), False), ([], ("put", -1, "x"), False),
            ([], ("cut", 0), False), ([], ("cut", -1), False),
            ([], ("turn", 0, "x"), False), ([], ("turn", -1, "x"), False),
            (["a", "b"], ("put", 0, "x"), True), (["a", "b"], ("put", 1, "x"), True),
            (["a", "b"], ("put", 2, "x"), True), (["a", "b"], ("put", 3, "x"), False),
            (["a", "b"], ("put", -1, "x"), False),
            (["a", "b"], ("cut", 0), True), (["a", "b"], ("cut", 1), True),
            (["a", "b"], ("cut", 2), False), (["a", "b"], ("cut", -1), False),
            (["a", "b"], ("turn", 0, "x"), True), (["a", "b"], ("turn", 1, "x"), True),
            (["a", "b"], ("turn", 2, "x"), False), (["a", "b"], ("turn", -1, "x"), False),
        ]:
            with self.subTest(things=things, edit=edit):
                self.assertIs(fits(things, edit), told)

    def test_at_every_place(self):
        for things, edit in all_cases():
            with self.subTest(things=things[:5], edit=edit):
                self.assertIs(fits(things, edit), should_fit(things, edit))


class TestLaid(unittest.TestCase):

    def test_written_out(self):
        for things, edit, told in [
            ([], ("put", 0, "x"), ["x"]),
            (["a", "b"], ("put", 0, "x"), ["x", "a", "b"]),
            (["a", "b"], ("put", 1, "x"), ["a", "x", "b"]),
            (["a", "b"], ("put", 2, "x"), ["a", "b", "x"]),
            (["a", "b"], ("cut", 0), ["b"]), (["a", "b"], ("cut", 1), ["a"]), (["a"], ("cut", 0), []),
            (["a", "b"], ("turn", 0, "x"), ["x", "b"]), (["a", "b"], ("turn", 1, "x"), ["a", "x"]),
            (["a", "b"], ("turn", 1, ""), ["a", ""]),
        ]:
            with self.subTest(things=things, edit=edit):
                self.assertEqual(laid(things, edit), told)

    def test_at_every_place(self):
        for things, edit in all_cases():
            with self.subTest(things=things[:5], edit=edit):
                if should_fit(things, edit):
                    told = laid(things, edit)
                    self.assertIs(type(told), list)
                    self.assertEqual(told, should_be_laid(things, edit))
                else:
                    with self.assertRaises(NoFit):
                        laid(things, edit)

    def test_refusal_is_a_chamber_error(self):
        with self.assertRaises(ChamberError):
            laid([], ("cut", 0))


class TestWayBack(unittest.TestCase):

    def test_written_out(self):
        things = ["a", "b"]
        self.assertEqual(way_back(things, ("put", 1, "x")), ("cut", 1))
        self.assertEqual(way_back(things, ("put", 2, "x")), ("cut", 2))
        self.assertEqual(way_back(things, ("cut", 1)), ("put", 1, "b"))
        self.assertEqual(way_back(things, ("turn", 0, "x")), ("turn", 0, "a"))
        self.assertEqual(way_back(things, ("turn", 0, "a")), ("turn", 0, "a"))
        self.assertEqual(way_back([], ("put", 0, "x")), ("cut", 0))

    def test_leads_back_from_every_place(self):
        kinds = {"put": "cut", "cut": "put", "turn": "turn"}
        for things, edit in all_cases():
            with self.subTest(things=things[:5], edit=edit):
                if should_fit(things, edit):
                    back = way_back(things, edit)
                    self.assertIs(type(back), tuple)
                    self.assertEqual(back[0], kinds[edit[0]])
                    self.assertEqual(len(back), 2 if back[0] == "cut" else 3)
                    self.assertEqual(laid(laid(things, edit), back), things)
                else:
                    with self.assertRaises(NoFit):
                        way_back(things, edit)


class TestLaidAll(unittest.TestCase):

    def test_without_edits(self):
        self.assertEqual(laid_all([], []), [])
        self.assertEqual(laid_all(["a", "b"], []), ["a", "b"])

    def test_each_is_laid_on_the_list_behind_those_ahead(self):
        edits = [("put", 0, "x"), ("put", 1, "y"), ("cut", 2), ("turn", 1, "z")]
        self.assertEqual(laid_all(["a", "b"], edits), ["x", "z", "b"])
        self.assertEqual(laid_all([], [("put", 0, "a"), ("put", 1, "b"), ("cut", 0)]), ["b"])

    def test_the_order_counts(self):
        one, other = ("put", 0, "x"), ("cut", 1)
        self.assertEqual(laid_all(["a", "b"], [one, other]), ["x", "b"])
        self.assertEqual(laid_all(["a", "b"], [other, one]), ["x", "a"])

    def test_one_that_does_not_fit(self):
        for things, edits in [
            ([], [("cut", 0)]),
            (["a"], [("cut", 0), ("cut", 0)]),
            (["a"], [("cut", 0), ("turn", 0, "x"), ("put", 0, "y")]),
            (["a"], [("put", 2, "x"), ("put", 0, "y")]),
            (["a", "b"], [("put", 0, "x"), ("put", -1, "y"), ("cut", 0)]),
            (["a", "b"], [("put", 0, "x"), ("cut", 0), ("turn", 2, "y")]),
        ]:
            with self.subTest(things=things, edits=edits):
                kept_things, kept_edits = list(things), list(edits)
                with self.assertRaises(NoFit):
                    laid_all(things, edits)
                self.assertEqual((things, edits), (kept_things, kept_edits))

    def test_one_that_fits_only_behind_another(self):
        with self.assertRaises(NoFit):
            laid_all(["a"], [("turn", 1, "x")])
        self.assertEqual(laid_all(["a"], [("put", 1, "b"), ("turn", 1, "x")]), ["a", "x"])

    def test_many(self):
        edits = [("put", place, str(place)) for place in range(400)]
        self.assertEqual(laid_all([], edits), [str(place) for place in range(400)])


class TestOwnLists(unittest.TestCase):

    def test_what_is_handed_in_stays(self):
        for things, edit in all_cases():
            kept = list(things)
            for asked in (fits, laid, way_back):
                try:
                    asked(things, edit)
                except NoFit:
                    pass
            with self.subTest(things=kept[:5], edit=edit):
                self.assertEqual(things, kept)
        things, edits = ["a", "b"], [("put", 0, "x"), ("cut", 1)]
        laid_all(things, edits)
        self.assertEqual((things, edits), (["a", "b"], [("put", 0, "x"), ("cut", 1)]))
        words = ["a", "b"]
        clause_of(words)
        self.assertEqual(words, ["a", "b"])

    def test_what_is_told_is_the_askers_own(self):
        things = ["a", "b"]
        for ask in (
            lambda: laid(things, ("put", 1, "x")), lambda: laid(things, ("cut", 1)),
            lambda: laid(things, ("turn", 1, "b")), lambda: laid_all(things, []),
            lambda: laid_all(things, [("cut", 0)]), lambda: words_of(""), lambda: words_of("a b"),
        ):
            told = ask()
            kept = list(told)
            self.assertIsNot(told, things)
            told.append("more")
            self.assertEqual(ask(), kept)
            told.clear()
            self.assertEqual(ask(), kept)
            self.assertEqual(things, ["a", "b"])

    def test_what_is_done_to_the_list_behind_changes_nothing(self):
        things, edits = ["a", "b"], [("put", 0, "x")]
        told, plain = laid(things, ("cut", 0)), laid_all(things, [])
        behind, back = laid_all(things, edits), way_back(things, ("cut", 0))
        things.clear()
        edits.clear()
        self.assertEqual((told, plain, behind, back), (["b"], ["a", "b"], ["x", "a", "b"], ("put", 0, "a")))


class TestWords(unittest.TestCase):

    PAIRS = [
        ("", []), ("a", ["a"]), ("a b", ["a", "b"]), ("a a a", ["a", "a", "a"]),
        ("twenty-signs-in-all! ~ //", ["twenty-signs-in-all!", "~", "//"]),
        ("! \" # ' , .", ["!", "\"", "#", "'", ",", "."]),
    ]

    def test_words_of(self):
        for clause, words in self.PAIRS:
            with self.subTest(clause=clause):
                told = words_of(clause)
                self.assertIs(type(told), list)
                self.assertEqual(told, words)

    def test_clause_of(self):
        for clause, words in self.PAIRS:
            with self.subTest(words=words):
                self.assertEqual(clause_of(words), clause)

    def test_many_words(self):
        words = [str(number) for number in range(400)]
        self.assertEqual(words_of(clause_of(words)), words)


if __name__ == "__main__":
    unittest.main()
