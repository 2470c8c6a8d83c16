"""Feeds: a machine that is fed a text piece by piece."""

from markpieces.ahead import goals_of, signs_on
from markpieces.bits import bits_of
from markpieces.lanes import Lanes, rows_along
from markpieces.putting import refuse_put


class Feed:
    """A machine and the text that it was fed so far."""

    def __init__(self, machine):
        self.machine = machine
        self.lanes = Lanes(machine)
        self.text = ""

    def __len__(self):
        return len(self.text)

    def feed(self, text):
        """The text goes on with this one."""
        refuse_put(text, len(self.text) + len(text))
        self.lanes.go_on(text)
        self.text += text

    def fed(self):
        """The text so far."""
        return self.text

    def sees(self):
        """A tuple of the rows that the machine tells for the text as it is, in the told order."""
        return tuple(rows_along(self.lanes, self.machine[0]))

    def open_names(self):
        """A tuple of the names, rising, for which the text can still go on to a row with a piece."""
        return tuple([name for name in self.machine[0] if self.may_come_to(name)])

    def live(self):
        """Whether the text can still go on to one that has a row."""
        return self.may_come_to(None)

    def may_come_to(self, name):
        """Whether the text can still go on to a row with a piece for the name, with None to any row."""
        onward = self.lanes.leads.behind_any(bits_of(list(signs_on(self.lanes))))
        return (onward & goals_of(self.machine, name)) != 0
