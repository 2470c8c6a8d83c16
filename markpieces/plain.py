"""The plain meaning of a sound pattern: the rows of its whole ways, and the ways to a row."""

from markpieces.bits import bits_in, bits_of
from markpieces.net import Net, marked
from markpieces.rails import FIRST, LAST, Rails
from markpieces.trails import Trails, way_along

MOST = 2


def rows_of(pattern, text):
    """A tuple of the rows of all whole ways, each once, in the told order."""
    return rows_through(Net(pattern), text)


def rows_through(net, text):
    """The same of a pattern's net.

    At each place all beginnings of rows stand in the told order, each with the positions to which
    ways with these very marks came: so ways are never told apart, and none is begun in vain.
    """
    begun = [((None,) * len(net.names), 1 << FIRST)]
    for place, able in enumerate(able_at(net, text)):
        known = {}
        longer = []
        for row, positions in begun:
            if positions not in known:
                known[positions] = hops_on(net, positions, able)
            longer.extend([(marked(row, marks, place), others) for marks, others in known[positions]])
        begun = longer
    return tuple([row for row, positions in begun])


def able_at(net, text):
    """For each place the positions that read the sign there and can then come to the end, as bits."""
    able = [1 << LAST]
    for sign in text[::-1]:
        readers = [at for at, signs in enumerate(net.signs) if sign in signs and (net.reach[at] & able[-1]) > 0]
        able.append(bits_of(readers))
    return able[::-1]


def hops_on(net, positions, able):
    """A list of (marks, next positions), of those that are able, in the told order of the marks."""
    found = {}
    for position in bits_in(positions):
        for marks, others in net.hops[position].items():
            if (others & able) > 0:
                found[marks] = found.get(marks, 0) | (others & able)
    return [(marks, found[marks]) for marks in sorted(list(found), key=told_rank)]


def told_rank(marks):
    """What the told order of marks, as bits, goes by: () is behind all others."""
    return (marks == 0, bits_in(marks))


def ways_to(pattern, text, row, *, most=MOST):
    """A tuple of unlike whole ways whose row it is: as many as there are, at most most."""
    asked = marks_asked(row, len(text))
    if asked is None:
        return ()
    trails = Trails(Rails(pattern), text, asked)
    return tuple([way_along(path) for path in trails.paths(most)])


def marks_asked(row, length):
    """For each place of a text so long the row's marks, as bits; None where a piece goes beyond it."""
    asked = [0] * (length + 1)
    for k, piece in enumerate(row):
        if piece is not None:
            begin, end = piece
            if end > length:
                return None
            asked[begin] |= 1 << (2 * k)
            asked[end] |= 1 << (2 * k + 1)
    return asked
