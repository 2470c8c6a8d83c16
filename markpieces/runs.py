"""Runs of a machine for a row, and bars, which show that it has none."""

from markpieces.bits import bits_in, bits_of
from markpieces.leads import Leads
from markpieces.machines import are_states, is_state
from markpieces.order import marks_at


def run_holds(machine, text, row, run):
    """Whether run, whatever it is, is a run of the machine for the row through the text."""
    if not isinstance(run, tuple) or len(run) != 2 * (len(text) + 1):
        return False
    if not all([is_state(state, len(machine[1])) for state in run]):
        return False
    if run[0] not in machine[2] or run[-1] not in machine[3]:
        return False
    leads = Leads(machine)
    turns = turns_of(machine[0], text, row)
    return all([has(states_behind(leads, 1 << here, turn), there) for here, turn, there in zip(run, turns, run[1:])])


def bar_holds(machine, text, row, bar):
    """Whether bar, whatever it is, is a bar for the row and the text."""
    if not isinstance(bar, tuple) or len(bar) != 2 * (len(text) + 1):
        return False
    if not all([are_states(states, len(machine[1])) for states in bar]):
        return False
    leads = Leads(machine)
    sets = [bits_of(states) for states in bar]
    if not within(leads.starts, sets[0]) or (sets[-1] & leads.ends) != 0:
        return False
    turns = turns_of(machine[0], text, row)
    return all([within(states_behind(leads, here, turn), there) for here, turn, there in zip(sets, turns, sets[1:])])


def why(machine, text, row):
    """("run", some run) where the machine tells the row for the text, else ("bar", some bar)."""
    leads = Leads(machine)
    turns = turns_of(machine[0], text, row)
    sets = sets_along(leads, turns)
    ends = bits_in(sets[-1] & leads.ends)
    if ends:
        return ("run", run_to(ends[0], leads, turns, sets))
    return ("bar", tuple([tuple(bits_in(states)) for states in sets]))


def turns_of(names, text, row):
    """A list of what leads from each state of a run to the next: marks and signs by turns."""
    turns = []
    for place, sign in enumerate(text):
        turns.append(marks_at(row, names, place))
        turns.append(sign)
    turns.append(marks_at(row, names, len(text)))
    return turns


def sets_along(leads, turns):
    """A list of the states, as bits, in which a run can be: at first, and behind each of the turns."""
    sets = [leads.starts]
    for turn in turns:
        sets.append(states_behind(leads, sets[-1], turn))
    return sets


def states_behind(leads, states, turn):
    """The states, as bits, to which the turn leads from some of these: a sign, marks, None for whatever marks."""
    if isinstance(turn, str):
        return leads.behind_sign(states, turn)
    if turn is None:
        return leads.behind_any(states)
    return leads.behind_marks(states, turn)


def has(states, state):
    """Whether the state is among the states, as bits."""
    return ((states >> state) & 1) == 1


def within(some, states):
    """Whether all of some are among the states, both as bits."""
    return (some | states) == states


def run_to(end, leads, turns, sets):
    """A run to the end: back from it, each time to a state that was come to and leads there."""
    run = [end]
    for turn, states in zip(turns[::-1], sets[-2::-1]):
        run.append(first_leading(leads, states, turn, run[-1]))
    return tuple(run[::-1])


def first_leading(leads, states, turn, there):
    """The first of the states, as bits, from which the turn leads there; None where there is none."""
    for state in bits_in(states):
        if has(states_behind(leads, 1 << state, turn), there):
            return state
    return None
