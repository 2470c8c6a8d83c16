"""Whether a text can still go on to a row with a piece for a name."""

from markpieces.bits import bits_in, bits_of
from markpieces.lanes import lanes_along
from markpieces.leads import led, moves_from, put_in_one
from markpieces.machines import are_states, marks_between
from markpieces.naming import refuse_lacking
from markpieces.order import row_by
from markpieces.runs import run_to, sets_along, within


def ahead(machine, text, name):
    """("yes", longer, row, run): a longer text with a row that has a piece for the name; or ("no", a shut set)."""
    goals = goals_of(machine, name)
    lanes = lanes_along(machine, text)
    onward = signs_on(lanes)
    for state, signs in onward.items():
        found = bits_in(lanes.leads.behind_any(1 << state) & goals)
        if found:
            longer = text + signs
            run = run_by_any_marks(lanes.leads, longer, found[0])
            return ("yes", longer, row_of_run(machine, run), run)
    return ("no", tuple(sorted(list(onward))))


def shut_holds(machine, text, name, thing):
    """Whether thing, whatever it is, is a shut set."""
    goals = goals_of(machine, name)
    if not are_states(thing, len(machine[1])):
        return False
    lanes = lanes_along(machine, text)
    states = bits_of(thing)
    behind = lanes.leads.behind_any(states)
    if not within(lanes.states, states) or (behind & goals) != 0:
        return False
    return within(led(behind, put_in_one(list(lanes.leads.by_signs.values()))), states)


def goals_of(machine, name):
    """The ends, as bits, with a piece for the name, with None all; NoName where the machine hasn't the name."""
    if name is None:
        return bits_of(machine[3])
    refuse_lacking((name,), machine[0])
    at = machine[0].index(name)
    return bits_of([end for end in machine[3] if machine[1][end][at] == 2])


def signs_on(lanes):
    """{state: signs that lead to it}, of all states to which the text can go on, fewest signs first."""
    reads = moves_from(lanes.leads.by_signs)
    waiting = bits_in(lanes.states)
    signs_to = {state: "" for state in waiting}
    at = 0
    while at < len(waiting):
        state = waiting[at]
        for sign, other in reads_behind(reads, lanes.leads.behind_any(1 << state)):
            if other not in signs_to:
                signs_to[other] = signs_to[state] + sign
                waiting.append(other)
        at += 1
    return signs_to


def reads_behind(reads, states):
    """A list of (a sign, a state behind it) of all reads from the states, as bits."""
    return [(signs[0], other) for state in bits_in(states)
            for signs, others in reads.get(state, []) for other in bits_in(others)]


def run_by_any_marks(leads, text, end):
    """A run through the text to the end, to which one leads, by whatever marks."""
    turns = [None]
    for sign in text:
        turns.extend([sign, None])
    return run_to(end, leads, turns, sets_along(leads, turns))


def row_of_run(machine, run):
    """The row that the run tells."""
    names, stands = machine[:2]
    return row_by([marks_between(stands[one], stands[other], names) for one, other in zip(run[::2], run[1::2])], names)
