"""Deeds done by a chamber, rows read back, and where two lists of rows part."""

from moot.errors import ChamberError, NoRow
from moot.house import Chamber
from moot.rows import read_deed


def do_deed(chamber, deed):
    """Let the chamber do a deed of any kind, and tell what the deed's own method tells."""
    kind = deed[0]
    if kind == "vote":
        return chamber.vote(deed[1], deed[2])
    if kind == "drop":
        return chamber.drop()
    if kind == "take":
        return chamber.take(deed[1])
    return chamber.move(deed)


def do_row(chamber, row, number):
    """Let the chamber do the deed of a row; what is refused is refused by the row's number."""
    try:
        do_deed(chamber, read_deed(row))
    except ChamberError:
        raise NoRow(number) from None


def replay(seats, rows):
    """The chamber that the rows lead to."""
    chamber = Chamber(seats)
    for number, row in enumerate(rows, start=1):
        do_row(chamber, row, number)
    return chamber


def are_alike(one, other):
    """Tell whether two chambers have the same state and the same motions."""
    return one.state() == other.state() and one.all_motions() == other.all_motions()


def parted(seats, one, other):
    """The first row behind which the two lists of rows part, or None."""
    # A row that is refused behind the parting counts, too, so both lists are read to their ends first.
    replay(seats, one)
    replay(seats, other)
    first = Chamber(seats)
    second = Chamber(seats)
    shared = min(len(one), len(other))
    for place in range(shared):
        number = place + 1
        do_row(first, one[place], number)
        do_row(second, other[place], number)
        if not are_alike(first, second):
            return number
    if len(one) == len(other):
        return None
    return shared + 1
