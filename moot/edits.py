"""Edits of lists of texts, and the words of clauses."""

from moot.errors import NoFit


def fits(things, edit):
    """Tell whether the edit fits the list."""
    places = len(things)
    if edit[0] == "put":
        # A put may also stand behind the last thing.
        places = places + 1
    return 0 <= edit[1] < places


def require_fit(things, edit):
    """Refuse an edit that does not fit the list."""
    if not fits(things, edit):
        raise NoFit(f"{edit!r} does not fit the list")


def laid(things, edit):
    """The list behind the edit."""
    require_fit(things, edit)
    kind = edit[0]
    place = edit[1]
    behind = list(things)
    if kind == "put":
        behind.insert(place, edit[2])
    elif kind == "cut":
        behind.pop(place)
    else:
        behind[place] = edit[2]
    return behind


def way_back(things, edit):
    """The edit that leads from the list behind the edit to the list ahead of it."""
    require_fit(things, edit)
    kind = edit[0]
    place = edit[1]
    if kind == "put":
        return ("cut", place)
    if kind == "cut":
        return ("put", place, things[place])
    return ("turn", place, things[place])


def laid_all(things, edits):
    """The list behind all the edits, laid on one after the other."""
    # Without edits, too, the list that is told must be a new one.
    behind = list(things)
    for edit in edits:
        behind = laid(behind, edit)
    return behind


def words_of(clause):
    """The words of a clause."""
    if clause == "":
        # A split would tell one word without signs here.
        return []
    return clause.split(" ")


def clause_of(words):
    """The clause of these words."""
    return " ".join(words)
