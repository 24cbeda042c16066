"""Deeds as rows: words with single blanks between."""

from moot.edits import clause_of, words_of
from moot.errors import NoRow

FIGURES = "0123456789"
MOST_FIGURES = 10
MOST_SIGNS = 20
LAST_SITTING = 999999999
# No text has the percent sign; it is told by its number, as it may not be written here.
PERCENT = 37
# The kinds of deeds whose rows are one word alone.
LONE = ("close", "lay", "rest", "drop")


def require(holds):
    """Refuse the row where something that must hold does not."""
    if not holds:
        raise NoRow(1)


def is_sign(sign):
    """Tell whether a word may have this sign."""
    return "!" <= sign <= "~" and ord(sign) != PERCENT


def is_word(word):
    """Tell whether this is a word of a clause."""
    # Two blanks side by side, or one at an end, leave a word without signs.
    return 1 <= len(word) <= MOST_SIGNS and word != "/" and all([is_sign(sign) for sign in word])


def is_number(word):
    """Tell whether this is a number as rows have it."""
    if word == "" or len(word) > MOST_FIGURES:
        return False
    # int alone would also take signs, blanks, underscores and figures of other scripts.
    return all([sign in FIGURES for sign in word]) and (word == "0" or word[0] != "0")


def read_number(word):
    """The number that the word tells."""
    require(is_number(word))
    return int(word)


def read_clause(words):
    """The clause of these words."""
    require(all([is_word(word) for word in words]))
    return clause_of(words)


def read_text(words):
    """The clauses of a matter, each behind its own `/`."""
    clauses = []
    for word in words:
        if word == "/":
            clauses.append([])
        else:
            # Ahead of the first `/` there is no clause that the word could be of.
            require(clauses != [])
            clauses[-1].append(word)
    return [read_clause(clause) for clause in clauses]


def read_edit(words):
    """The edit of a change."""
    require(len(words) >= 2)
    kind = words[0]
    place = read_number(words[1])
    thing = words[2:]
    if kind == "cut":
        require(thing == [])
        return ("cut", place)
    require(kind in ("put", "turn"))
    return (kind, place, read_clause(thing))


def read_mend(words):
    """The edit of a mend: as that of a change, but its thing is just one word."""
    edit = read_edit(words)
    require(edit[0] == "cut" or len(words) == 3)
    return edit


def read_sitting(words):
    """The sitting of a put off, from the words behind its first one."""
    require(len(words) == 2 and words[0] == "off")
    sitting = read_number(words[1])
    require(1 <= sitting <= LAST_SITTING)
    return sitting


def read_deed(row):
    """The deed that the row tells."""
    words = row.split(" ")
    kind = words[0]
    behind = words[1:]
    if kind == "matter":
        return ("matter", read_text(behind))
    if kind == "change":
        return ("change", read_edit(behind))
    if kind == "mend":
        return ("mend", read_mend(behind))
    if kind == "put":
        return ("put off", read_sitting(behind))
    if kind == "point":
        return ("point", read_clause(behind))
    if kind == "vote":
        require(len(behind) == 2)
        return ("vote", read_number(behind[0]), read_number(behind[1]))
    if kind == "take":
        require(len(behind) == 1)
        return ("take", read_number(behind[0]))
    require(kind in LONE and behind == [])
    return (kind,)


def words_of_text(text):
    """The words of a matter's clauses, with a `/` ahead of each clause."""
    words = []
    for clause in text:
        words.append("/")
        words.extend(words_of(clause))
    return words


def words_of_edit(edit):
    """The words of an edit of clauses or of words."""
    words = [edit[0], str(edit[1])]
    if edit[0] != "cut":
        words.extend(words_of(edit[2]))
    return words


def words_behind(deed):
    """The words of a deed's row behind its kind."""
    kind = deed[0]
    if kind == "matter":
        return words_of_text(deed[1])
    if kind == "change" or kind == "mend":
        return words_of_edit(deed[1])
    if kind == "point":
        return words_of(deed[1])
    return [str(number) for number in deed[1:]]


def show_deed(deed):
    """The row of the deed."""
    return clause_of([deed[0]] + words_behind(deed))
