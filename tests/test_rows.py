"""Points 2, 7, 8 and 21: deeds as tuples and as rows."""

import copy
import itertools
import re
import unittest

from helper import ChamberTest
from moot.errors import NoRow
from moot.rows import read_deed, show_deed

W20 = "twenty-signs-in-all!"
W21 = W20 + "!"
SIGNS = [chr(code) for code in range(33, 127) if chr(code) not in "%/"]

PAIRS = [
    ("matter", ("matter", [])),
    ("matter /", ("matter", [""])),
    ("matter / /", ("matter", ["", ""])),
    ("matter / a", ("matter", ["a"])),
    ("matter / the old hall", ("matter", ["the old hall"])),
    ("matter / the old hall / is kept", ("matter", ["the old hall", "is kept"])),
    ("matter / / a / / b c /", ("matter", ["", "a", "", "b c", ""])),
    ("matter / matter / change put 0 / put off 3", ("matter", ["matter", "change put 0", "put off 3"])),
    ("matter / put off cut vote // /", ("matter", ["put off cut vote //", ""])),
    ("matter / // /", ("matter", ["//", ""])),
    ("matter / " + W20 + " /a a/", ("matter", [W20 + " /a a/"])),
    ("matter" + " / n" * 100, ("matter", ["n"] * 100)),
    ("matter" + " /" * 100, ("matter", [""] * 100)),
    ("change put 0", ("change", ("put", 0, ""))),
    ("change put 0 a", ("change", ("put", 0, "a"))),
    ("change put 3 the old hall", ("change", ("put", 3, "the old hall"))),
    ("change put 1 2 3", ("change", ("put", 1, "2 3"))),
    ("change put 0 put 0 put off", ("change", ("put", 0, "put 0 put off"))),
    ("change cut 0", ("change", ("cut", 0))),
    ("change cut 12", ("change", ("cut", 12))),
    ("change cut 9999999999", ("change", ("cut", 9999999999))),
    ("change turn 0", ("change", ("turn", 0, ""))),
    ("change turn 10 cut 0", ("change", ("turn", 10, "cut 0"))),
    ("change turn 1234567890 //", ("change", ("turn", 1234567890, "//"))),
    ("mend put 0 a", ("mend", ("put", 0, "a"))),
    ("mend put 0 0", ("mend", ("put", 0, "0"))),
    ("mend put 7 " + W20, ("mend", ("put", 7, W20))),
    ("mend put 9999999999 put", ("mend", ("put", 9999999999, "put"))),
    ("mend cut 0", ("mend", ("cut", 0))),
    ("mend cut 1000000000", ("mend", ("cut", 1000000000))),
    ("mend turn 0 off", ("mend", ("turn", 0, "off"))),
    ("mend turn 1 cut", ("mend", ("turn", 1, "cut"))),
    ("mend turn 2 vote", ("mend", ("turn", 2, "vote"))),
    ("mend turn 3 //", ("mend", ("turn", 3, "//"))),
    ("put off 1", ("put off", 1)),
    ("put off 2", ("put off", 2)),
    ("put off 10", ("put off", 10)),
    ("put off 999999999", ("put off", 999999999)),
    ("close", ("close",)),
    ("lay", ("lay",)),
    ("rest", ("rest",)),
    ("point", ("point", "")),
    ("point a", ("point", "a")),
    ("point point", ("point", "point")),
    ("point put off cut vote //", ("point", "put off cut vote //")),
    ("point -1 +1 01 1_0 99999999999", ("point", "-1 +1 01 1_0 99999999999")),
    ("point " + " ".join(SIGNS), ("point", " ".join(SIGNS))),
    ("point // ///", ("point", "// ///")),
    ("vote 0 0", ("vote", 0, 0)),
    ("vote 1 0", ("vote", 1, 0)),
    ("vote 0 10", ("vote", 0, 10)),
    ("vote 9999999999 1000000000", ("vote", 9999999999, 1000000000)),
    ("drop", ("drop",)),
    ("take 0", ("take", 0)),
    ("take 7", ("take", 7)),
    ("take 9999999999", ("take", 9999999999)),
]

# What is no number, wherever one is asked for.
NO_NUMBERS = [
    "00", "01", "007", "0000000000", "-0", "-1", "+1", "+0", "a", "1a", "a1", "x1", "0x1", "1.0", "1_0", "1,0", "1e3",
    "12345678901", "10000000000", "99999999999", "00000000001", "/", "", "one", "-", "1\n", "\t1", "\u0663", "\u00b2",
    "\uff11", "1%",
] + ["1" + sign for sign in SIGNS if sign not in "0123456789"]
WITH_NUMBERS = [
    "change put {}", "change put {} a", "change cut {}", "change turn {}", "change turn {} a b", "mend put {} a",
    "mend cut {}", "mend turn {} a", "put off {}", "vote {} 0", "vote 0 {}", "take {}",
]

# What is no word, wherever one is asked for; the rows are such that a `/` begins no clause there.
NO_WORDS = [W21, "n" * 22, "n" * 100, "/" * 21, "/", "", "a\n", "\n", "a\tb", "a%b", "%", "\u00e4", "\x7f", "\x1f"]
WITH_WORDS = [
    "change put 0 {}", "change put 0 a {}", "change turn 0 {} b", "mend put 0 {}", "mend turn 0 {}", "point {}",
    "point a {}", "point {} b",
]

NO_ROWS = [
    "", " ", "  ", "\n", "/", "//", "a", "0", "1", "matters", "matte", "motion", "put-off", "off", "cut", "turn",
    "cut 0", "turn 0", "turn 0 a", "off 3", "aside", "kept", "lost", "dropped", "open north 5", "more",
    "Matter", "MATTER", "Change cut 0", "change Cut 0", "CHANGE cut 0", "Mend cut 0", "mend CUT 0", "Put off 3",
    "put Off 3", "PUT OFF 3", "Close", "LAY", "Rest", "Point", "POINT a", "Vote 1 0", "Drop", "Take 1",
    "matter a", "matter a /", "matter a / b", "matter // a", "matter //", "matter /a", "matter 0", "matter put / a",
    "matter / " + W21, "matter / a " + W21 + " / b", "matter / a / b%", "matter / a\n", "matter\n", "matter / a\nb",
    "change", "change put", "change cut", "change turn", "change 0", "change 0 a", "change off 0", "change off 0 a",
    "change cut 0 a", "change cut 0 0", "change cut 0 /", "change cut 0 cut 0", "change a 0", "change place 0 a",
    "change put a 0", "change put / 0", "change put 0 / a", "change put 0 /", "change put 0 a /", "change put 0 a / b",
    "change turn 0 /", "change turn 0 a / b", "change matter / a", "change put off 0", "change / put 0",
    "mend", "mend put", "mend cut", "mend turn", "mend put 0", "mend turn 0", "mend put 0 a b", "mend turn 0 a b",
    "mend put 0 a b c", "mend put 0 /", "mend turn 0 /", "mend put 0 a /", "mend put 0 / a", "mend cut 0 a",
    "mend cut 0 0", "mend cut 0 /", "mend 0 a", "mend off 0 a", "mend a 0 b", "mend put a 0",
    "put", "put 0", "put 3", "put 0 a", "put off", "put off 0", "put off 1000000000", "put off 1000000001",
    "put off 9999999999", "put off 3 4", "put off 3 a", "put off /", "put off a", "put 3 off", "put on 3",
    "put / off 3", "put off off 3", "put off 3 /",
    "close 1", "close a", "close /", "close close", "close debate", "lay 1", "lay a", "lay /", "lay aside", "rest 1",
    "rest a", "rest /", "drop 1", "drop a", "drop /", "drop drop", "close lay",
    "point /", "point / a", "point a /", "point a / b", "point " + W21, "point a " + W21,
    "vote", "vote 1", "vote 1 2 3", "vote 1 2 a", "vote a b", "vote / 1 2", "vote 1 / 2", "vote 1 2 /", "vote ayes 1",
    "take", "take 1 2", "take a", "take 1 a", "take / 1", "take 1 /",
]

NUMBER = "(?:0|[1-9][0-9]{0,9})"
WORD = "(?:[!-$&-.0-~]|[!-$&-~]{2,20})"
ROW = re.compile("|".join([
    f"matter(?: /(?: {WORD})*)*",
    f"change (?:put|turn) {NUMBER}(?: {WORD})*",
    f"mend (?:put|turn) {NUMBER} {WORD}",
    f"(?:change|mend) cut {NUMBER}",
    "put off [1-9][0-9]{0,8}",
    "close|lay|rest|drop",
    f"point(?: {WORD})*",
    f"vote {NUMBER} {NUMBER}",
    f"take {NUMBER}",
]))
FIRST = ["matter", "change", "mend", "put", "close", "lay", "rest", "point", "vote", "drop", "take", "cut", "", "/"]
LATER = ["put", "off", "cut", "turn", "vote", "/", "//", "0", "1", "01", "", "x", W21]


def short_rows():
    """All rows of at most five words out of a few that a row can turn on."""
    for many in range(5):
        for first in FIRST:
            for later in itertools.product(LATER if many < 4 else LATER[:8], repeat=many):
                yield " ".join([first] + list(later))


def deeds():
    """A deed of each kind with each number, clause and word out of a few."""
    numbers = [0, 1, 9, 10, 100, 999999999, 1000000000, 9999999999]
    words = ["a", "put", "off", "cut", "turn", "vote", "//", "0", "01", "-1", W20]
    clauses = ["", "a b"] + words + [" ".join(words)]
    for many in range(4):
        for text in itertools.product(clauses[:8], repeat=many):
            yield ("matter", list(text))
    for number in numbers:
        for kind, things in (("change", clauses), ("mend", words)):
            yield (kind, ("cut", number))
            for thing in things:
                yield (kind, ("put", number, thing))
                yield (kind, ("turn", number, thing))
        yield ("take", number)
        for other in numbers:
            yield ("vote", number, other)
    for sitting in (1, 2, 10, 999999998, 999999999):
        yield ("put off", sitting)
    for clause in clauses:
        yield ("point", clause)
    for kind in ("close", "lay", "rest", "drop"):
        yield (kind,)


class RowsTest(ChamberTest):

    def assert_no_row(self, row):
        with self.subTest(row=row):
            self.assert_refused(NoRow, 1, read_deed, row)


class TestDeedsAndRows(RowsTest):

    def test_read(self):
        for row, deed in PAIRS:
            with self.subTest(row=row):
                self.assert_same(read_deed(row), deed)

    def test_show(self):
        for row, deed in PAIRS:
            with self.subTest(deed=deed):
                self.assert_same(show_deed(deed), row)

    def test_every_kind_is_among_the_pairs(self):
        self.assertEqual(len({deed[0] for row, deed in PAIRS}), 11)

    def test_every_deed_has_one_row_that_tells_it(self):
        rows = {}
        for deed in deeds():
            with self.subTest(deed=deed):
                row = show_deed(deed)
                self.assertIsNotNone(ROW.fullmatch(row))
                self.assert_same(read_deed(row), deed)
                self.assertNotIn(row, rows)
                rows[row] = deed

    def test_a_row_of_4000_signs(self):
        row = "point" + " n" * 1997 + "n"
        self.assertEqual(len(row), 4000)
        self.assert_same(read_deed(row), ("point", row[len("point "):]))
        self.assertEqual(show_deed(read_deed(row)), row)

    def test_what_has_grown_is_still_shown(self):
        text = ["n " * 200 + "n"] * 101
        self.assertEqual(show_deed(("matter", text)), "matter" + (" / " + text[0]) * 101)
        self.assertEqual(show_deed(("change", ("put", 400, text[0] * 20))), "change put 400 " + text[0] * 20)


class TestNoRows(RowsTest):

    def test_written_out(self):
        for row in NO_ROWS:
            self.assert_no_row(row)

    def test_no_numbers(self):
        for form in WITH_NUMBERS:
            read_deed(form.format("1"))
            for number in NO_NUMBERS:
                self.assert_no_row(form.format(number))

    def test_no_words(self):
        for form in WITH_WORDS:
            read_deed(form.format(W20))
            for word in NO_WORDS:
                self.assert_no_row(form.format(word))
        for word in NO_WORDS:
            if word != "/":
                for form in ("matter / {}", "matter / a {} b", "matter / a / {}"):
                    self.assert_no_row(form.format(word))

    def test_two_blanks_and_blanks_at_the_ends(self):
        for row, deed in PAIRS:
            self.assert_no_row(" " + row)
            self.assert_no_row(row + " ")
            self.assert_no_row("  " + row)
            for place, sign in enumerate(row):
                if sign == " " and place < 40:
                    self.assert_no_row(row[:place] + " " + row[place:])

    def test_line_ends(self):
        for row, deed in PAIRS:
            self.assert_no_row(row + "\n")
            self.assert_no_row("\n" + row)
            self.assert_no_row(row + "\n" + row)

    def test_a_word_too_many(self):
        for row, deed in PAIRS:
            if deed[0] in ("close", "lay", "rest", "drop", "take", "vote", "put off", "mend"):
                for word in ("a", "0", "/", "//", "off"):
                    self.assert_no_row(row + " " + word)

    def test_a_word_too_few(self):
        for row, deed in PAIRS:
            if deed[0] in ("take", "vote", "put off", "mend"):
                self.assert_no_row(row.rpartition(" ")[0])

    def test_all_short_rows(self):
        read = 0
        for row in short_rows():
            if ROW.fullmatch(row):
                read += 1
                self.assertEqual(show_deed(read_deed(row)), row)
            else:
                try:
                    read_deed(row)
                except NoRow as refusal:
                    self.assertEqual(refusal.row, 1, row)
                else:
                    self.fail(f"read: {row!r}")
        self.assertGreater(read, 1000)


class TestOwnLists(RowsTest):

    def test_a_refusal_changes_nothing(self):
        for row, deed in PAIRS:
            for bad in ("", "matter / a /  b", "change put 0 a /", "mend put 0 a b", "put off 0", "vote 1"):
                with self.assertRaises(NoRow):
                    read_deed(bad)
                self.assertEqual(read_deed(row), deed)
                self.assertEqual(show_deed(deed), row)

    def test_what_is_read_is_the_askers_own(self):
        for row in ("matter", "matter /", "matter / a b / c"):
            told = read_deed(row)
            kept = copy.deepcopy(told)
            told[1].append("more")
            self.assertEqual(read_deed(row), kept)
            told[1].clear()
            again = read_deed(row)
            self.assertEqual(again, kept)
            self.assertIsNot(again[1], told[1])

    def test_a_deed_that_is_handed_in_stays(self):
        for row, deed in PAIRS:
            handed = copy.deepcopy(deed)
            show_deed(handed)
            with self.subTest(row=row):
                self.assert_same(handed, deed)

    def test_what_is_done_to_the_deed_behind_changes_nothing(self):
        text = ["a", "b c"]
        row = show_deed(("matter", text))
        text.clear()
        self.assertEqual(row, "matter / a / b c")
        self.assertEqual(show_deed(("matter", text)), "matter")


if __name__ == "__main__":
    unittest.main()
