"""Tables: names and rows of these, and deeds that make new tables of tables."""

from markpieces.naming import names_of_both, refuse_lacking, refuse_unlike
from markpieces.order import in_order


class Table:
    """Names, rising, and rows of these, each once, in the told order; both are tuples."""

    def __init__(self, names, rows):
        rising = tuple(sorted(names))
        self.names = rising
        self.rows = in_order([turned(row, names, rising) for row in rows], rising)

    def __len__(self):
        return len(self.rows)

    def __eq__(self, other):
        return isinstance(other, Table) and self.names == other.names and self.rows == other.rows

    def __str__(self):
        return "\n".join([" ".join(self.names)] + [line_of(row) for row in self.rows])


def line_of(row):
    """The line that shows the row."""
    return " ".join(["-" if piece is None else f"{piece[0]}-{piece[1]}" for piece in row])


def turned(row, names, others):
    """The row of the one names as a row of the others: None for a name that it lacks."""
    pieces = dict(zip(names, row))
    return tuple([pieces.get(name) for name in others])


def joined(one, other):
    """The rows of the names of both whose parts are rows of the one and of the other."""
    names = names_of_both(one.names, other.names)
    shared = [name for name in one.names if name in other.names]
    # By what rows have for the shared names those that agree are found at once.
    agreeing = {}
    for row in other.rows:
        agreeing.setdefault(turned(row, other.names, shared), []).append(row)
    rows = []
    for row in one.rows:
        for more in agreeing.get(turned(row, one.names, shared), []):
            rows.append(turned(row + more, one.names + other.names, names))
    return Table(names, rows)


def either(one, other):
    """The rows of the one and those of the other, with None for the names that they lack."""
    names = names_of_both(one.names, other.names)
    rows = [turned(row, one.names, names) for row in one.rows]
    return Table(names, rows + [turned(row, other.names, names) for row in other.rows])


def without(one, other):
    """The rows of the one that are no rows of the other."""
    refuse_unlike(one.names, other.names)
    others = {row: True for row in other.rows}
    return Table(one.names, [row for row in one.rows if row not in others])


def only(table, names):
    """The table's rows with these names alone."""
    refuse_lacking(names, table.names)
    return Table(names, [turned(row, table.names, names) for row in table.rows])


def same(table, one, other, text):
    """The rows in which both names have pieces that read the same in the text."""
    refuse_lacking((one, other), table.names)
    left = table.names.index(one)
    right = table.names.index(other)
    return Table(table.names, [row for row in table.rows if reads_same(row[left], row[right], text)])


def reads_same(one, other, text):
    """Whether both are pieces that read the same in the text."""
    if one is None or other is None:
        return False
    return text[one[0]:one[1]] == text[other[0]:other[1]]
