"""The machine of a sound pattern."""

from markpieces.bits import bits_in
from markpieces.growing import grown
from markpieces.net import Net, marks_of
from markpieces.rails import FIRST, LAST


def made(pattern):
    """A machine of the pattern's names that tells, for every text, just the rows of rows_of.

    A state is (0, position, stand): that position was read last; or (1, positions, stand): marks
    came behind that, and one of these positions, as bits, comes next.
    """
    net = Net(pattern)
    # Positions behind which all is alike are one state: the first of them stands for all.
    kin = [net.hops.index(hops) for hops in net.hops]
    begin = (0, kin[FIRST], (0,) * len(net.names))
    return grown(net.names, [begin], lambda key: looked_at(net, kin, key))


def looked_at(net, kin, key):
    """What grown asks for of a key."""
    kind, where, stand = key
    if kind == 1:
        return (stand, ends_at(where), [], reads_of(net, kin, where, stand))
    hops = net.hops[where]
    steps = [(marks_of(marks, net.names), (1, hops[marks], stand_behind(stand, marks))) for marks in hops if marks > 0]
    # No marks between is staying, so what comes next then is read from this very state.
    following = hops.get(0, 0)
    return (stand, ends_at(following), steps, reads_of(net, kin, following, stand))


def ends_at(positions):
    """Whether the end is among the positions, as bits."""
    return ((positions >> LAST) & 1) == 1


def reads_of(net, kin, positions, stand):
    """A list of (signs, key): a read for each of the positions, as bits, but the end."""
    return [(net.signs[one], (0, kin[one], stand)) for one in bits_in(positions) if one != LAST]


def stand_behind(stand, marks):
    """The stand behind these marks, as bits."""
    stands = list(stand)
    for bit in bits_in(marks):
        stands[bit // 2] = 1 + (bit & 1)
    return tuple(stands)
