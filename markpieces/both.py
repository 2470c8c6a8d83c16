"""Two machines with the same names, side by side."""

from markpieces.leads import Leads
from markpieces.signs import SIGNS


class Both:
    """Two machines that go on by the same marks and signs.

    A pair is (states of the one, states of the other), each as bits. marks has all marks that
    stand in a step of either, and (); signs has one sign of each sort that reads tell apart.
    """

    def __init__(self, one, other):
        self.one = Leads(one)
        self.other = Leads(other)
        self.starts = (self.one.starts, self.other.starts)
        self.marks = sorted(set([(), *self.one.by_marks, *self.other.by_marks]))
        self.signs = signs_apart([*self.one.by_signs, *self.other.by_signs])

    def behind_marks(self, pair, marks):
        """The pair behind a step with just these marks, or, for (), behind staying."""
        return (self.one.behind_marks(pair[0], marks), self.other.behind_marks(pair[1], marks))

    def behind_sign(self, pair, sign):
        """The pair behind a read of the sign."""
        return (self.one.behind_sign(pair[0], sign), self.other.behind_sign(pair[1], sign))

    def odd_end(self, pair):
        """(marks, which): behind these marks just that one has an end; None where there are no such marks."""
        for marks in self.marks:
            states, others = self.behind_marks(pair, marks)
            has_end = (states & self.one.ends) != 0
            if has_end != ((others & self.other.ends) != 0):
                return (marks, 0 if has_end else 1)
        return None

    def pairs_on(self, pair):
        """A list of (pair, marks, sign): to which pairs the two come next, and by what, but to the empty one."""
        found = []
        for marks in self.marks:
            between = self.behind_marks(pair, marks)
            for sign in self.signs:
                further = self.behind_sign(between, sign)
                if further != (0, 0):
                    found.append((further, marks, sign))
        return found


def signs_apart(reads):
    """A list of one sign of each sort: signs are of one sort where just the same reads have them, one at least."""
    first = {}
    for sign in SIGNS:
        having = tuple([signs for signs in reads if sign in signs])
        if having != ():
            first.setdefault(having, sign)
    return list(first.values())
