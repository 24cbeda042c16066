"""The eight kinds of motions, as objects and as tuples."""

RANKS = {
    "matter": 0,
    "change": 1,
    "mend": 2,
    "put off": 3,
    "close": 4,
    "lay": 5,
    "rest": 6,
    "point": 7,
}


class Motion:
    """The base of the eight kinds; it is not made itself."""

    def kind(self):
        """The kind's name, which each class below tells of itself."""
        return ""

    def rank(self):
        """The rank of the kind."""
        return RANKS[self.kind()]

    def need(self):
        """What a vote must be for the motion to be kept."""
        return "more"

    def told(self):
        """The motion's tuple."""
        return (self.kind(),)


class Matter(Motion):
    """A matter with its text, a list of clauses."""

    def __init__(self, text):
        # The asker may go on writing in the list that was handed in.
        self.text = list(text)

    def kind(self):
        return "matter"

    def told(self):
        return (self.kind(), list(self.text))


class Change(Motion):
    """A change to a matter: an edit of its clauses."""

    def __init__(self, edit):
        self.edit = edit

    def kind(self):
        return "change"

    def told(self):
        return (self.kind(), self.edit)


class Mend(Motion):
    """A mend to a change: an edit of the words of its thing."""

    def __init__(self, edit):
        self.edit = edit

    def kind(self):
        return "mend"

    def told(self):
        return (self.kind(), self.edit)


class PutOff(Motion):
    """A motion to put the matter off until a sitting."""

    def __init__(self, sitting):
        self.sitting = sitting

    def kind(self):
        return "put off"

    def told(self):
        return (self.kind(), self.sitting)


class Close(Motion):
    """A motion to close the debate."""

    def kind(self):
        return "close"

    def need(self):
        return "two thirds"


class Lay(Motion):
    """A motion to lay the matter aside."""

    def kind(self):
        return "lay"


class Rest(Motion):
    """A motion to end the sitting."""

    def kind(self):
        return "rest"


class Point(Motion):
    """A point, told as a clause."""

    def __init__(self, clause):
        self.clause = clause

    def kind(self):
        return "point"

    def told(self):
        return (self.kind(), self.clause)


def motion_of(told):
    """The object of a motion's tuple."""
    kind = told[0]
    if kind == "matter":
        return Matter(told[1])
    if kind == "change":
        return Change(told[1])
    if kind == "mend":
        return Mend(told[1])
    if kind == "put off":
        return PutOff(told[1])
    if kind == "close":
        return Close()
    if kind == "lay":
        return Lay()
    if kind == "rest":
        return Rest()
    return Point(told[1])
