"""A chamber: its seats, its sitting, and every motion made in it."""

from moot.edits import clause_of, laid, require_fit, words_of
from moot.errors import Barred, NoAside, NoNumber, Nothing, NotLater, NotYet, TooMany
from moot.motions import Change, Matter, motion_of
from moot.order import bar_of, kinds_in_order, require_in_order
from moot.rows import show_deed
from moot.votes import is_kept


class Chamber:
    """A chamber with so many seats. On a pile a matter, where there is one, lies at the bottom: no rank is lower."""

    def __init__(self, seats):
        self.seats = seats
        self.sitting = 1
        self.closed = False
        # All motions, by their numbers, as they are now.
        self.made = {}
        # The numbers of the motions that are pending, from the bottom.
        self.pile = []
        # By the number of a matter: until which sitting, and the pile that went aside with it.
        self.aside = {}
        self.decided = []
        # By the numbers of the matters.
        self.first_texts = {}
        self.edits_kept = {}
        self.rows = []

    def move(self, told):
        """Make a motion, and tell its number."""
        self.require_can_be_made(told)
        number = len(self.made) + 1
        self.made[number] = motion_of(told)
        self.pile.append(number)
        if told[0] == "matter":
            self.first_texts[number] = list(told[1])
            self.edits_kept[number] = []
        self.rows.append(show_deed(told))
        return number

    def vote(self, ayes, noes):
        """Decide the top motion by a vote, and tell whether it is kept or lost."""
        self.require_pending()
        if ayes + noes > self.seats:
            raise TooMany("there are more votes than seats")
        motion = self.made[self.pile[-1]]
        word = "kept" if is_kept(motion.need(), ayes, noes) else "lost"
        self.decide(word)
        if word == "kept":
            self.carry_out(motion)
        self.end_decision(("vote", ayes, noes))
        return word

    def drop(self):
        """Drop the top motion."""
        self.require_pending()
        self.decide("dropped")
        self.end_decision(("drop",))
        return "dropped"

    def take(self, number):
        """Take a matter up again with all that went aside with it, and tell its number."""
        if self.pile:
            raise Barred(bar_of(self.pending(), self.closed))
        if number not in self.aside:
            raise NoAside(f"no matter of the number {number} is aside")
        until = self.aside[number][0]
        if self.sitting < until:
            raise NotYet(until)
        self.pile = self.aside.pop(number)[1]
        self.rows.append(show_deed(("take", number)))
        return number

    def in_order(self):
        """The kinds of motions that are in order, by rank, rising."""
        return kinds_in_order(self.pending(), self.closed)

    def state(self):
        """The sitting, whether the debate is closed, what is pending, what is aside and what is decided."""
        aside = [self.told_aside(number) for number in sorted(self.aside)]
        return (self.sitting, self.closed, list(self.pile), aside, list(self.decided))

    def motion(self, number):
        """The motion of this number, as it is now."""
        if number not in self.made:
            raise NoNumber(f"no motion has the number {number}")
        return self.made[number].told()

    def all_motions(self):
        """All motions, as they are now, in the order in which they were made."""
        return [self.motion(number) for number in self.made]

    def kept_changes(self, number):
        """The edits of a matter's kept changes, in the order in which they were kept."""
        self.require_matter(number)
        return list(self.edits_kept[number])

    def first_text(self, number):
        """The text with which a matter was made."""
        self.require_matter(number)
        return list(self.first_texts[number])

    def minutes(self):
        """The rows of all deeds done."""
        return list(self.rows)

    def pending(self):
        """The motions on the pile, from the bottom."""
        return [self.made[number] for number in self.pile]

    def told_aside(self, number):
        """A matter that is aside: its number, until which sitting, and all that went aside with it."""
        waiting = self.aside[number]
        return (number, waiting[0], list(waiting[1]))

    def require_can_be_made(self, told):
        """Refuse a motion that is out of order, or does not fit what it is for."""
        kind = told[0]
        pile = self.pending()
        require_in_order(kind, pile, self.closed)
        if kind == "change":
            require_fit(pile[0].text, told[1])
        elif kind == "mend":
            require_fit(words_of(pile[-1].edit[2]), told[1])
        elif kind == "put off" and told[1] <= self.sitting:
            raise NotLater(self.sitting)

    def require_pending(self):
        """Refuse to decide where nothing is pending."""
        if not self.pile:
            raise Nothing("the pile is empty")

    def require_matter(self, number):
        """Refuse a number that is not a matter's."""
        if number not in self.first_texts:
            raise NoNumber(f"no matter has the number {number}")

    def decide(self, word):
        """Take the top motion from the pile as decided."""
        self.decided.append((self.pile.pop(), word))

    def end_decision(self, deed):
        """Open the debate where nothing is pending any more, and write the deed down."""
        if not self.pile:
            self.closed = False
        self.rows.append(show_deed(deed))

    def carry_out(self, motion):
        """Do what a kept motion asks for; it is not on the pile any more."""
        kind = motion.kind()
        if kind == "change":
            self.lay_on_matter(motion.edit)
        elif kind == "mend":
            self.lay_on_change(motion.edit)
        elif kind == "put off":
            self.put_aside(motion.sitting)
        elif kind == "close":
            self.closed = True
        elif kind == "lay":
            self.put_aside(self.sitting)
        elif kind == "rest":
            self.sitting = self.sitting + 1

    def lay_on_matter(self, edit):
        """Lay the edit of a kept change on the text of the matter."""
        number = self.pile[0]
        self.made[number] = Matter(laid(self.made[number].text, edit))
        self.edits_kept[number].append(edit)

    def lay_on_change(self, edit):
        """Lay the edit of a kept mend on the words of the change."""
        number = self.pile[-1]
        change = self.made[number].edit
        words = laid(words_of(change[2]), edit)
        self.made[number] = Change((change[0], change[1], clause_of(words)))

    def put_aside(self, until):
        """Put all that is on the pile aside, by the number of its matter."""
        self.aside[self.pile[0]] = (until, self.pile)
        self.pile = []
