"""Feeds: a machine that is fed a text piece by piece."""

from markpieces.ahead import goals_of
from markpieces.lanes import Lanes, leading, rows_along
from markpieces.leads import put_in_one
from markpieces.putting import refuse_put


class Feed:
    """A machine and the text that it was fed so far.

    toward has, for each name and for None, the states, as bits, from which the text can still go
    on to a row with a piece for the name, with None to any row.
    """

    def __init__(self, machine):
        self.names = machine[0]
        self.lanes = Lanes(machine)
        self.toward = {name: leading_on(self.lanes.leads, goals_of(machine, name)) for name in (*machine[0], None)}
        self.text = ""

    def __len__(self):
        return len(self.text)

    def feed(self, text):
        """The text goes on with this one."""
        refuse_put(text, len(self.text) + len(text))
        self.lanes.go_on(text)
        self.text += text

    def fed(self):
        """The text so far."""
        return self.text

    def sees(self):
        """A tuple of the rows that the machine tells for the text as it is, in the told order."""
        return tuple(rows_along(self.lanes, self.names))

    def open_names(self):
        """A tuple of the names, rising, for which the text can still go on to a row with a piece."""
        return tuple([name for name in self.names if (self.lanes.states & self.toward[name]) != 0])

    def live(self):
        """Whether the text can still go on to one that has a row."""
        return (self.lanes.states & self.toward[None]) != 0


def leading_on(leads, goals):
    """The states, as bits, ahead of the marks at a place, from which some way on leads to one of the goals."""
    any_sign = put_in_one(list(leads.by_signs.values()))
    found = 0
    behind = goals
    further = behind | leading(leads.any_marks, behind)
    while further != found:
        found = further
        behind = goals | leading(any_sign, found)
        further = behind | leading(leads.any_marks, behind)
    return found
