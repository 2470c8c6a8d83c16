"""What a sound plan means for a text, and the first text at which two plans part."""

from markpieces.naming import refuse_unlike
from markpieces.net import Net
from markpieces.order import in_order
from markpieces.plain import rows_through
from markpieces.plans import names_in, plans_within
from markpieces.tables import Table, either, joined, only, same, without

SOME = "ab"
LONGEST = 3


def meaning(plan, text):
    """The Table of the plan's rows for the text."""
    return table_for(Readied(plan), text)


class Readied:
    """A plan made ready for many texts: each of its patterns is looked into once only."""

    def __init__(self, plan):
        self.plan = plan
        self.net = Net(plan[1]) if plan[0] == "pattern" else None
        self.within = [Readied(part) for part in plans_within(plan)]


def table_for(readied, text):
    """The meaning of a plan that is made ready."""
    plan = readied.plan
    kind = plan[0]
    if kind == "pattern":
        return Table(readied.net.names, rows_through(readied.net, text))
    tables = [table_for(part, text) for part in readied.within]
    if kind == "join":
        return joined(tables[0], tables[1])
    if kind == "either":
        return either(tables[0], tables[1])
    if kind == "without":
        return without(tables[0], tables[1])
    if kind == "only":
        return only(tables[0], plan[1])
    return same(tables[0], plan[1], plan[2], text)


def parted(plan, other, *, signs=SOME, most=LONGEST):
    """(text, row, which) of the first text at which the meanings are unlike; None where there is none."""
    refuse_unlike(names_in(plan), names_in(other))
    one = Readied(plan)
    another = Readied(other)
    for text in texts_of(signs, most):
        found = first_odd(table_for(one, text), table_for(another, text))
        if found is not None:
            row, which = found
            return (text, row, which)
    return None


def texts_of(signs, most):
    """A list of all texts of the signs, at most so long: shorter ones first, then in order."""
    texts = [""]
    last = [""]
    for length in range(most):
        last = [text + sign for text in last for sign in sorted(signs)]
        texts.extend(last)
    return texts


def first_odd(one, other):
    """(row, which) of the first row that just one of the tables has; None where there is none."""
    ahead = without(one, other).rows
    behind = without(other, one).rows
    rows = in_order(ahead + behind, one.names)
    if rows == ():
        return None
    return (rows[0], 0 if rows[0] in ahead else 1)
