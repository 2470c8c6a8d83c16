"""Machines: what they are made of."""

from markpieces.kinds import is_number, rise
from markpieces.patterns import MOST_NAMES, are_signs
from markpieces.signs import is_name

MOST_STATES = 400
MOST_MOVES = 12000

# What a name's marks are where its stand changes from the one number to the other.
CHANGES = {(0, 0): (), (1, 1): (), (2, 2): (), (0, 1): (0,), (1, 2): (1,), (0, 2): (0, 1)}


def is_machine(thing):
    """Whether thing, whatever it is, is a machine: (names, states, starts, ends, steps, reads)."""
    if not isinstance(thing, tuple) or len(thing) != 6:
        return False
    names, states, starts, ends, steps, reads = thing
    if not are_names(names) or not are_stands(states, len(names)):
        return False
    if not are_states(starts, len(states)) or not are_states(ends, len(states)):
        return False
    stands_fit = all([begins(states[state]) for state in starts]) and all([may_end(states[state]) for state in ends])
    return stands_fit and are_moves(steps, reads, names, states)


def are_names(thing):
    """Whether thing is a tuple of names, rising, not too many."""
    if not isinstance(thing, tuple) or len(thing) > MOST_NAMES:
        return False
    return all([is_name(name) for name in thing]) and rise(thing)


def are_stands(thing, width):
    """Whether thing is a tuple of stands, each of so many names, one at least and not too many."""
    if not isinstance(thing, tuple) or not 1 <= len(thing) <= MOST_STATES:
        return False
    return all([is_stand(stand, width) for stand in thing])


def is_stand(thing, width):
    """Whether thing is a tuple of so many of the numbers 0, 1, 2."""
    if not isinstance(thing, tuple) or len(thing) != width:
        return False
    return all([is_number(one) and 0 <= one <= 2 for one in thing])


def begins(stand):
    """Whether a start may have this stand."""
    return all([one == 0 for one in stand])


def may_end(stand):
    """Whether an end may have this stand."""
    return all([one != 1 for one in stand])


def is_state(thing, count):
    """Whether thing is one of so many states."""
    return is_number(thing) and 0 <= thing < count


def are_states(thing, count):
    """Whether thing is a tuple of some of so many states, rising, each once."""
    return isinstance(thing, tuple) and all([is_state(one, count) for one in thing]) and rise(thing)


def are_moves(steps, reads, names, states):
    """Whether the two can be the steps and the reads of a machine with these names and states."""
    if not isinstance(steps, tuple) or not isinstance(reads, tuple) or len(steps) + len(reads) > MOST_MOVES:
        return False
    fit = all([is_step(step, names, states) for step in steps]) and all([is_read(one, states) for one in reads])
    return fit and rise(steps) and rise(reads)


def is_move(thing, count):
    """Whether thing is (state, whatever it is, other state), of so many states."""
    return isinstance(thing, tuple) and len(thing) == 3 and is_state(thing[0], count) and is_state(thing[2], count)


def is_step(thing, names, states):
    """Whether thing is a step: its marks are just what changes between the stands."""
    if not is_move(thing, len(states)):
        return False
    marks = thing[1]
    fits = isinstance(marks, tuple) and marks == marks_between(states[thing[0]], states[thing[2]], names)
    # True and False are equal to 1 and 0, but no numbers.
    return fits and all([is_number(mark[1]) for mark in marks])


def marks_between(stand, other, names):
    """The marks by which the names change from the one stand to the other; None where they can't."""
    marks = []
    for name, one, further in zip(names, stand, other):
        change = CHANGES.get((one, further))
        if change is None:
            return None
        marks.extend([(name, which) for which in change])
    return tuple(marks)


def is_read(thing, states):
    """Whether thing is a read: the stands are alike."""
    if not is_move(thing, len(states)):
        return False
    return are_signs(thing[1]) and states[thing[0]] == states[thing[2]]
