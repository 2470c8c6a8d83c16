"""Rails: a pattern as stations and edges between them, so that each path is a way of its own."""

from markpieces.patterns import names_of

# The station where every path begins and the one where it ends; and, of the positions, what
# stands for having read nothing so far and for having come to the end.
FIRST = 0
LAST = 1


class Rails:
    """The paths from FIRST to LAST are the whole ways of the pattern, one path to one way.

    edges has, for each station, a list of (other station, deed, what): "read" of a position,
    "mark" of a mark's bit; "open" and "shut" begin and end a tuple of ways; "pick" ends the way
    of an any by the part of that number; "again" goes back to the begin of what is repeated.
    A position is a sign form: signs has what it reads, behind the station to which that leads.
    The marks of the k-th name are the bits 2 * k, where it begins, and 2 * k + 1, where it ends.
    """

    def __init__(self, pattern):
        self.names = names_of(pattern)
        self.edges = [[], []]
        self.signs = ["", ""]
        self.behind = [FIRST, LAST]
        self.lay(pattern, FIRST, LAST)

    def station(self):
        """A new station."""
        self.edges.append([])
        return len(self.edges) - 1

    def connect(self, begin, end, deed, what):
        """A new edge from the one station to the other."""
        self.edges[begin].append((end, deed, what))

    def lay(self, pattern, begin, end):
        """Puts the pattern's ways between the two stations, which may be one."""
        kind = pattern[0]
        if kind == "sign":
            self.connect(begin, end, "read", len(self.signs))
            self.signs.append(pattern[1])
            self.behind.append(end)
        elif kind == "row":
            self.lay_row(pattern[1], begin, end)
        elif kind == "any":
            self.lay_any(pattern[1], begin, end)
        elif kind == "some":
            self.lay_some(pattern, begin, end)
        else:
            self.lay_mark(pattern, begin, end)

    def lay_row(self, parts, begin, end):
        """Of a row: its parts one behind another."""
        at = self.station()
        self.connect(begin, at, "open", None)
        for part in parts:
            further = self.station()
            self.lay(part, at, further)
            at = further
        self.connect(at, end, "shut", None)

    def lay_any(self, parts, begin, end):
        """Of an any: its parts side by side."""
        for k, part in enumerate(parts):
            at = self.station()
            further = self.station()
            self.connect(begin, at, "open", None)
            self.lay(part, at, further)
            self.connect(further, end, "pick", k)

    def lay_some(self, pattern, begin, end):
        """Of a some: its part, with just one path for each number of times."""
        low, high, part = pattern[1:]
        at = self.station()
        self.connect(begin, at, "open", None)
        if (low, high) == (0, None):
            self.lay(part, at, at)
            self.connect(at, end, "shut", None)
            return
        further = self.station()
        self.lay(part, at, further)
        self.connect(further, end, "shut", None)
        if low == 0:
            self.connect(at, end, "shut", None)
        else:
            self.connect(further, at, "again", None)

    def lay_mark(self, pattern, begin, end):
        """Of a mark: its part between the two marks."""
        name = self.names.index(pattern[1])
        at = self.station()
        further = self.station()
        self.connect(begin, at, "mark", 1 << (2 * name))
        self.lay(pattern[2], at, further)
        self.connect(further, end, "mark", 1 << (2 * name + 1))


def marks_behind(marks, deed, what):
    """The marks of a place, as bits, behind an edge that isn't a read."""
    return marks | what if deed == "mark" else marks
