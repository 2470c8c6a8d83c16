"""The net of a pattern: which position follows which, by which marks."""

from markpieces.bits import bits_in
from markpieces.rails import LAST, Rails, marks_behind


class Net:
    """For each position, hops has {marks: the positions that may come next, by just these marks}.

    Marks and positions are bits, as Rails numbers them. forks has likewise the positions to which
    two paths and more lead, reach all that may come next by whatever marks.
    """

    def __init__(self, pattern):
        rails = Rails(pattern)
        self.names = rails.names
        self.signs = rails.signs
        self.hops = []
        self.forks = []
        for station in rails.behind:
            paths = paths_on(rails, station)
            self.hops.append(by_marks(paths, 1))
            self.forks.append(by_marks(paths, 2))
        self.reach = [union(hops) for hops in self.hops]


def paths_on(rails, station):
    """{(marks, position): how many paths lead there without another read, at most 2}."""
    paths = {}
    met = {}
    waiting = [(station, 0)]
    while waiting:
        here = waiting.pop()
        # What is behind a third path to one place is behind two of them already.
        if met.get(here, 0) == 2:
            continue
        met[here] = met.get(here, 0) + 1
        at, marks = here
        if at == LAST:
            paths[(marks, LAST)] = met[here]
        for other, deed, what in rails.edges[at]:
            if deed == "read":
                paths[(marks, what)] = min(2, paths.get((marks, what), 0) + 1)
            else:
                waiting.append((other, marks_behind(marks, deed, what)))
    return paths


def by_marks(paths, least):
    """{marks: the positions to which at least so many of the paths lead}."""
    found = {}
    for (marks, position), many in paths.items():
        if many >= least:
            found[marks] = found.get(marks, 0) | (1 << position)
    return found


def union(hops):
    """All positions of the hops."""
    bits = 0
    for marks in hops:
        bits |= hops[marks]
    return bits


def marks_of(marks, names):
    """The tuple of the marks that these bits stand for."""
    return tuple([(names[bit // 2], bit & 1) for bit in bits_in(marks)])


def marked(row, marks, place):
    """The row, as far as it is told, with these marks at the place."""
    pieces = list(row)
    for bit in bits_in(marks):
        # A piece that has only begun stands as an empty one: its end is put right when it comes.
        begin = place if (bit & 1) == 0 else pieces[bit // 2][0]
        pieces[bit // 2] = (begin, place)
    return tuple(pieces)
