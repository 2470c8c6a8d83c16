"""Desks: a plan over a text that is edited."""

from markpieces.busy import refuse_busy
from markpieces.errors import NothingBack, Outside, Unsound
from markpieces.meaning import Readied, table_for
from markpieces.plans import fault_of
from markpieces.putting import refuse_put
from markpieces.tables import Table, without

LINES = 6
BACKS = 40


class Desk:
    """A desk over a sound plan that holds a text.

    earlier has the texts to which back() leads, the last one last; known is (text, its table),
    so that a table is not made again for the text that it was made for last.
    """

    def __init__(self, plan, *, text=""):
        fault = fault_of(plan)
        if fault is not None:
            path, why = fault
            raise Unsound(path, why)
        self.plan = plan
        self.readied = Readied(plan)
        self.text = text
        self.known = None
        self.earlier = []
        self.entries = []
        self.busy = False

    def __len__(self):
        return len(self.text)

    def __eq__(self, other):
        return isinstance(other, Desk) and self.plan == other.plan and self.text == other.text

    def __str__(self):
        return "\n".join([self.text, str(table_for(self.readied, self.text))])

    def table(self):
        """The Table of the plan's meaning for the text as it is."""
        table = self.table_now()
        return Table(table.names, table.rows)

    def shows(self):
        """The text as it is."""
        return self.text

    def edit(self, at, *, cut=0, put=""):
        """Takes out cut signs from place at on, puts put there; tells (gone, come)."""
        refuse_busy(self.busy)
        text = edited(self.text, at, cut, put)
        self.keep(self.text)
        return self.turn_to(text)

    def back(self):
        """Undoes the last edit that stands; tells (gone, come)."""
        refuse_busy(self.busy)
        if self.earlier == []:
            raise NothingBack()
        return self.turn_to(self.earlier.pop())

    def tried(self, edits, *, tell=None):
        """Does all of the edits, one behind another, as one, or none of them; tells (gone, come)."""
        refuse_busy(self.busy)
        to_do = [tuple(one) for one in edits]
        before = self.table_now()
        first = standing = self.text
        stand = 0
        self.entries = [*self.entries[-LINES:], ("begin", len(to_do))]
        self.busy = True
        try:
            self.do_all(to_do, tell)
            told = changes(before, self.table_now())
            self.keep(first)
            standing = self.text
            stand = len(to_do)
        finally:
            # However it ended: the text is the new one only where all of it was done.
            self.text = standing
            self.busy = False
            self.entries.append(("end", stand))
        return told

    def log(self):
        """A tuple of the last LINES entries that tried left, oldest first."""
        return tuple(self.entries[-LINES:])

    def table_now(self):
        """The table of the text as it is, which isn't to be handed out."""
        if self.known is None or self.known[0] != self.text:
            self.known = (self.text, table_for(self.readied, self.text))
        return self.known[1]

    def turn_to(self, text):
        """Has the text for its own; tells (gone, come)."""
        before = self.table_now()
        self.text = text
        return changes(before, self.table_now())

    def keep(self, text):
        """Keeps a text for back()."""
        self.earlier = [*self.earlier, text][-BACKS:]

    def do_all(self, edits, tell):
        """Does the edits one behind another, and calls tell behind each where it isn't None."""
        for at, cut, put in edits:
            self.text = edited(self.text, at, cut, put)
            if tell is not None:
                tell(self.text)


def edited(text, at, cut, put):
    """The text with cut signs from place at on taken out and put put there, where that isn't refused."""
    if at < 0 or cut < 0 or at + cut > len(text):
        raise Outside(at, cut)
    refuse_put(put, len(text) - cut + len(put))
    return text[:at] + put + text[at + cut:]


def changes(before, after):
    """(gone, come): the rows that just the one table has, and those that just the other has."""
    return (without(before, after).rows, without(after, before).rows)
