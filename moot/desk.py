"""A desk: chambers by names, and the orders that are told to it."""

from moot.edits import clause_of
from moot.errors import NoName, NoRow
from moot.house import Chamber
from moot.replay import do_deed, parted, replay
from moot.rows import read_deed, read_number, require, show_deed

MOST_LETTERS = 12
MOST_SEATS = 1000000000
# The orders that have a name alone behind them.
WITH_NAME = ("order", "state", "minutes")
# The orders that have a name and a number behind them.
WITH_NUMBER = ("open", "read", "text")


def read_name(word):
    """The name of a chamber."""
    require(1 <= len(word) <= MOST_LETTERS and all(["a" <= sign <= "z" for sign in word]))
    return word


def read_seats(word):
    """The number of seats that the word tells."""
    seats = read_number(word)
    require(1 <= seats <= MOST_SEATS)
    return seats


def read_asked(kind, words):
    """What an order tells behind its name: a number, a deed, or None."""
    if kind == "do":
        return read_deed(clause_of(words))
    if kind in WITH_NAME:
        require(words == [])
        return None
    require(kind in WITH_NUMBER and len(words) == 1)
    if kind == "text":
        return read_number(words[0])
    return read_seats(words[0])


def read_order(row):
    """The order of a first row: its kind, its names, and what it tells behind them."""
    words = row.split(" ")
    kind = words[0]
    if kind == "part":
        require(len(words) == 3)
        return (kind, [read_name(words[1]), read_name(words[2])], None)
    require(len(words) >= 2)
    return (kind, [read_name(words[1])], read_asked(kind, words[2:]))


def require_blank(rows):
    """Refuse rows behind an order that takes none."""
    for number, row in enumerate(rows, start=2):
        if row.strip(" ") != "":
            raise NoRow(number)


def read_back(seats, rows):
    """The chamber that the rows behind the first one lead to."""
    try:
        return replay(seats, rows)
    except NoRow as refusal:
        # The order's own row counts, too.
        raise NoRow(refusal.row + 1) from None


def show_state(chamber):
    """How many motions are pending, aside and decided."""
    state = chamber.state()
    pending = len(state[2])
    aside = sum([len(waiting[2]) for waiting in state[3]])
    decided = len(state[4])
    return f"{pending} {aside} {decided}"


def show_parting(one, other):
    """Where the minutes of two chambers part."""
    if one.seats != other.seats:
        return "seats"
    number = parted(one.seats, one.minutes(), other.minutes())
    return "alike" if number is None else str(number)


def answer(kind, chamber, asked):
    """What is told to an order about one chamber."""
    if kind == "do":
        return str(do_deed(chamber, asked))
    if kind == "order":
        return ", ".join(chamber.in_order())
    if kind == "state":
        return show_state(chamber)
    if kind == "text":
        return show_deed(chamber.motion(asked))
    return "\n".join(chamber.minutes())


class Desk:
    """A desk that keeps chambers by names."""

    def __init__(self):
        self.chambers = {}

    def say(self, text):
        """Tell the desk a text, an order and perhaps rows behind it, and hear its answer."""
        rows = text.split("\n")
        order = read_order(rows[0])
        kind = order[0]
        names = order[1]
        asked = order[2]
        if kind == "read":
            return self.keep(names[0], read_back(asked, rows[1:]))
        require_blank(rows[1:])
        if kind == "open":
            return self.keep(names[0], Chamber(asked))
        chambers = [self.chamber_of(name) for name in names]
        if kind == "part":
            return show_parting(chambers[0], chambers[1])
        return answer(kind, chambers[0], asked)

    def keep(self, name, chamber):
        """Keep the chamber by this name, in the place of one that was there."""
        self.chambers[name] = chamber
        return "ok"

    def chamber_of(self, name):
        """The chamber that stands by this name."""
        if name not in self.chambers:
            raise NoName(name)
        return self.chambers[name]
