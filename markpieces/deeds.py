"""Deeds on machines, each of which makes of machines what a deed on tables makes of their tables."""

from markpieces.growing import grown, in_shape
from markpieces.leads import Leads
from markpieces.naming import names_of_both, refuse_lacking, refuse_unlike


def joint(one, other):
    """A machine for joined: both go side by side, a state is a pair of states."""
    names = names_of_both(one[0], other[0])
    shared = [name for name in one[0] if name in other[0]]
    pairs = [(left, right) for left in one[2] for right in other[2]]
    left_moves = Moves(one)
    right_moves = Moves(other)
    return grown(names, pairs, lambda pair: joint_at(names, shared, left_moves, right_moves, pair))


class Moves:
    """A machine with its steps and reads by the state from which they lead, as (middle, other state)."""

    def __init__(self, machine):
        self.machine = machine
        self.steps = by_state(machine[4], len(machine[1]))
        self.reads = by_state(machine[5], len(machine[1]))


def by_state(moves, count):
    """For each of so many states a list of (middle, other state) of the moves from it."""
    found = [[] for state in range(count)]
    for state, middle, other in moves:
        found[state].append((middle, other))
    return found


def joint_at(names, shared, one, other, pair):
    """What grown asks for of a pair of states."""
    left, right = pair
    stands = dict(zip(other.machine[0], other.machine[1][right]))
    stands.update(dict(zip(one.machine[0], one.machine[1][left])))
    is_end = left in one.machine[3] and right in other.machine[3]
    steps = joint_steps(shared, one.steps[left], other.steps[right], pair)
    reads = joint_reads(one.reads[left], other.reads[right])
    return (tuple([stands[name] for name in names]), is_end, steps, reads)


def joint_steps(shared, steps, others, pair):
    """A list of (marks, pair): each of the two takes a step or stays, and shared names agree."""
    left, right = pair
    found = []
    for marks, further in [((), left), *steps]:
        for more, beyond in [((), right), *others]:
            step = (tuple(sorted(set(marks) | set(more))), (further, beyond))
            # Where both stay the pair stays, for which no step is needed.
            if marks_of_names(marks, shared) == marks_of_names(more, shared) and step != ((), pair):
                found.append(step)
    return found


def marks_of_names(marks, names):
    """Those of the marks that are of these names."""
    return tuple([mark for mark in marks if mark[0] in names])


def joint_reads(reads, others):
    """A list of (signs, pair): both read the same sign."""
    found = []
    for signs, further in reads:
        for more, beyond in others:
            shared = "".join([sign for sign in signs if sign in more])
            if shared != "":
                found.append((shared, (further, beyond)))
    return found


def choice(one, other):
    """A machine for either: the states of both side by side."""
    names = names_of_both(one[0], other[0])
    shift = len(one[1])
    stands = [widened(stand, machine[0], names) for machine in (one, other) for stand in machine[1]]
    starts = [*one[2], *[state + shift for state in other[2]]]
    ends = [*one[3], *[state + shift for state in other[3]]]
    return in_shape(names, stands, starts, ends, [*one[4], *moved_on(other[4], shift)],
                    [*one[5], *moved_on(other[5], shift)])


def widened(stand, names, wider):
    """The stand of some names as one of more names, of which the others never begin."""
    stands = dict(zip(names, stand))
    return tuple([stands.get(name, 0) for name in wider])


def moved_on(moves, shift):
    """A list of the moves with all states numbered so much higher."""
    return [(state + shift, middle, other + shift) for state, middle, other in moves]


def few(machine, names):
    """A machine for only: the same states, with these names alone."""
    refuse_lacking(names, machine[0])
    kept = sorted(names)
    stands = [widened(stand, machine[0], kept) for stand in machine[1]]
    steps = [(state, marks_of_names(marks, kept), other) for state, marks, other in machine[4]]
    return in_shape(kept, stands, machine[2], machine[3], steps, machine[5])


def rest(one, other):
    """A machine for without: a run of the one goes on beside all that the other could do.

    A state is (0, state, states): ahead of the marks at a place; or (1, state, states): behind
    them; states are those of the other, as bits.
    """
    refuse_unlike(one[0], other[0])
    moves = Moves(one)
    leads = Leads(other)
    return grown(one[0], [(0, start, leads.starts) for start in one[2]], lambda key: rest_at(moves, leads, key))


def rest_at(one, leads, key):
    """What grown asks for of such a state."""
    kind, state, others = key
    steps = []
    if kind == 0:
        steps = [(marks, (1, further, leads.behind_marks(others, marks))) for marks, further in one.steps[state]]
        # The one may stay where it is; the other may then have stayed, or taken a step without marks.
        others = leads.behind_marks(others, ())
    is_end = state in one.machine[3] and (others & leads.ends) == 0
    return (one.machine[1][state], is_end, steps, rest_reads(one.reads[state], leads, others))


def rest_reads(reads, leads, others):
    """A list of (signs, key): the signs of each read by where they lead the other."""
    found = []
    for signs, further in reads:
        groups = {}
        for sign in signs:
            beyond = leads.behind_sign(others, sign)
            groups[beyond] = groups.get(beyond, "") + sign
        found.extend([(groups[beyond], (0, further, beyond)) for beyond in groups])
    return found
