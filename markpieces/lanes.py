"""What a machine can do along a text that goes on sign by sign, and the walk through its rows."""

from markpieces.bits import bits_in, bits_of
from markpieces.leads import Leads, led, moves_from
from markpieces.order import row_by
from markpieces.walk import Walk


class Lanes:
    """A machine along a text.

    reads has, for each sign, where it leads from each state; states are those, as bits, in which
    the machine can be behind the last sign, by whatever marks.
    """

    def __init__(self, machine):
        self.leads = Leads(machine)
        self.onward = moves_from(self.leads.by_marks)
        self.reads = []
        self.states = self.leads.starts

    def go_on(self, text):
        """The text goes on with this one."""
        for sign in text:
            self.reads.append(self.leads.group_of(sign))
            self.states = led(self.leads.behind_any(self.states), self.reads[-1])


def lanes_along(machine, text):
    """The lanes of the machine along the text."""
    lanes = Lanes(machine)
    lanes.go_on(text)
    return lanes


def able_behind(lanes):
    """For each place the states, as bits, that can still come to an end from behind the marks there."""
    able = [lanes.leads.ends]
    for group in lanes.reads[::-1]:
        alive = able[-1] | leading(lanes.leads.any_marks, able[-1])
        able.append(leading(group, alive))
    return able[::-1]


def leading(group, states):
    """The states, as bits, from which the group leads to one of these."""
    return bits_of([state for state in group if (group[state] & states) != 0])


def walk_through(lanes):
    """A walk whose ways are, in the told order, the marks of each row at all places."""
    able = able_behind(lanes)
    return Walk(lambda node: marks_on(lanes, able, node), len(able))


def rows_along(lanes, names):
    """A list of all rows of these names, in the told order."""
    walk = walk_through(lanes)
    rows = []
    way = walk.more()
    while way is not None:
        rows.append(row_by(way, names))
        way = walk.more()
    return rows


def marks_on(lanes, able, node):
    """The edges of a node, which is (place, the states there ahead of the marks); None is the first one.

    There is an edge only where some states behind it are able, so each node leads on.
    """
    place, states = (0, lanes.leads.starts) if node is None else node
    found = {(): states & able[place]}
    for state in bits_in(states):
        for marks, others in lanes.onward.get(state, []):
            found[marks] = found.get(marks, 0) | (others & able[place])
    told = sorted([marks for marks in found if found[marks] != 0], key=lambda one: (one == (), one))
    return tuple([(marks, (place + 1, states_behind_sign(lanes, place, found[marks]))) for marks in told])


def states_behind_sign(lanes, place, states):
    """The states behind the sign at the place; none where the text ends there."""
    return led(states, lanes.reads[place]) if place < len(lanes.reads) else 0
