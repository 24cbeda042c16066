"""What is in order: the bar of a pile, and the kinds of motions above it."""

from moot.errors import Barred, NoChange, NoMatter
from moot.motions import RANKS

CLOSED_BAR = 4


def bar_of(pile, closed):
    """The rank that a motion must be above to be in order."""
    bar = pile[-1].rank() if pile else -1
    if closed:
        return max(bar, CLOSED_BAR)
    return bar


def has_matter(pile):
    """Tell whether a matter is on the pile."""
    return any([motion.kind() == "matter" for motion in pile])


def can_be_mended(pile):
    """Tell whether the top motion is a change with a thing that a mend can be laid on."""
    if not pile:
        return False
    told = pile[-1].told()
    return told[0] == "change" and told[1][0] != "cut"


def has_what_it_needs(kind, pile):
    """Tell whether the pile holds what a motion of this kind is about."""
    if kind == "mend":
        return can_be_mended(pile)
    if kind in ("change", "put off", "close", "lay"):
        return has_matter(pile)
    return True


def kinds_in_order(pile, closed):
    """The kinds that are in order, by rank, rising."""
    bar = bar_of(pile, closed)
    # The ranks stand rising where they are written, and a walk keeps to that.
    return [kind for kind in RANKS if RANKS[kind] > bar and has_what_it_needs(kind, pile)]


def require_in_order(kind, pile, closed):
    """Refuse a kind that is not in order, with the bar, or with what it lacks."""
    bar = bar_of(pile, closed)
    if RANKS[kind] <= bar:
        raise Barred(bar)
    if not has_what_it_needs(kind, pile):
        if has_matter(pile):
            # A mend alone asks for more than a matter.
            raise NoChange("the top motion is no change that can be mended")
        raise NoMatter(f"{kind} needs a matter on the pile")
