"""The refusals: each has a class of its own, and all stand under ChamberError."""


class ChamberError(ValueError):
    """Any refusal."""


class NoFit(ChamberError):
    """An edit does not fit the list that it is for."""


class Barred(ChamberError):
    """The bar is too high for what was asked."""

    def __init__(self, bar):
        ChamberError.__init__(self, f"barred by the bar {bar}")
        self.bar = bar


class NoMatter(ChamberError):
    """There is no matter on the pile."""


class NoChange(ChamberError):
    """The top motion is no change that can be mended."""


class NotLater(ChamberError):
    """A matter would be put off to a sitting that is not a later one."""

    def __init__(self, sitting):
        ChamberError.__init__(self, f"not later than the sitting {sitting}")
        self.sitting = sitting


class Nothing(ChamberError):
    """The pile is empty."""


class TooMany(ChamberError):
    """There are more votes than seats."""


class NoAside(ChamberError):
    """No matter of this number is aside."""


class NotYet(ChamberError):
    """A matter is aside until a sitting that is still to come."""

    def __init__(self, sitting):
        ChamberError.__init__(self, f"aside until the sitting {sitting}")
        self.sitting = sitting


class NoNumber(ChamberError):
    """No motion, or no matter, has this number."""


class NoRow(ChamberError):
    """A row tells no deed, or one that is refused."""

    def __init__(self, row):
        ChamberError.__init__(self, f"refused at the row {row}")
        self.row = row


class NoName(ChamberError):
    """No chamber stands by this name."""

    def __init__(self, name):
        ChamberError.__init__(self, f"no chamber by the name {name}")
        self.name = name
