"""The rows of a machine for a text, told one by one."""

from markpieces.busy import refuse_busy
from markpieces.lanes import lanes_along, walk_through
from markpieces.order import row_by
from markpieces.walk import ways_left


class Told:
    """Tells the machine's rows for the text in the told order, without making them all ahead."""

    def __init__(self, machine, text):
        self.names = machine[0]
        self.walk = walk_through(lanes_along(machine, text))
        self.many = 0
        self.busy = False

    def more(self):
        """The next row; None where there is none left."""
        refuse_busy(self.busy)
        return self.next_row()

    def opened(self):
        """How many beginnings the rows told so far have, each once."""
        return self.walk.asked

    def sofar(self):
        """How many rows were told so far."""
        return self.many

    def left(self):
        """Whether a row is left."""
        return ways_left(self.walk)

    def each(self, tell, *, most=None):
        """Calls tell with each of the rows that are left, at most most of them; tells how many it was."""
        refuse_busy(self.busy)
        before = self.many
        self.busy = True
        try:
            while most is None or self.many - before < most:
                row = self.next_row()
                if row is None:
                    break
                tell(row)
        finally:
            self.busy = False
        return self.many - before

    def next_row(self):
        """The next row, which counts as told; None where there is none left."""
        way = self.walk.more()
        if way is None:
            return None
        self.many += 1
        return row_by(way, self.names)
