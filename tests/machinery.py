"""What tests of machines need: machines by chance, and what they tell by the words of the document."""

import functools
import itertools

from tests.helpers import pieces, plain_marks

PLAIN = {(0, 0): (), (1, 1): (), (2, 2): (), (0, 1): (0,), (1, 2): (1,), (0, 2): (0, 1)}


def change(names, stand, other):
    """The marks from the one stand to the other, or None."""
    marks = []
    for name, one, further in zip(names, stand, other):
        if (one, further) not in PLAIN:
            return None
        marks += [(name, which) for which in PLAIN[one, further]]
    return tuple(marks)


def chance_machine(numbers, names, most=6, moves=20, signs="ab"):
    """A machine by chance, of at most so many states, and so many steps and reads together."""
    width = len(names)
    stands = [(0,) * width] + [tuple(numbers.choice((0, 1, 2, 2)) for name in names)
                               for _ in range(numbers.randint(0, most - 1))]
    if numbers.random() < 0.8:
        stands[-1] = tuple(numbers.choice((0, 2, 2)) for name in names)
    count = len(stands)
    begins = [state for state in range(count) if not any(stands[state])]
    finals = [state for state in range(count) if 1 not in stands[state]]
    starts = sorted({state for state in begins if numbers.random() < 0.8})
    ends = sorted({state for state in finals if numbers.random() < 0.7})
    every = [(a, change(names, stands[a], stands[b]), b) for a in range(count) for b in range(count)]
    steps = [step for step in every if step[1] is not None and (step[1] != () or numbers.random() < 0.3)]
    reads = [(a, "".join(sorted(numbers.sample(signs, numbers.randint(1, len(signs))))), b)
             for a in range(count) for b in range(count) if stands[a] == stands[b] and numbers.random() < 0.8]
    numbers.shuffle(steps)
    numbers.shuffle(reads)
    half = moves // 2
    return (tuple(names), tuple(stands), tuple(starts), tuple(ends), tuple(sorted(steps[:half])),
            tuple(sorted(set(reads[:moves - half]))))


def marks_and_states(machine, state):
    """All (marks, state) from a state at one place: staying, and steps."""
    return [((), state)] + [(marks, other) for one, marks, other in machine[4] if one == state]


def told_rows(machine, text):
    """A set of the rows that the machine tells, by going through all that it can do."""
    @functools.lru_cache(maxsize=None)
    def onward(place, state):
        found = set()
        for marks, other in marks_and_states(machine, state):
            if place == len(text):
                found |= {(marks,)} if other in machine[3] else set()
                continue
            for one, signs, further in machine[5]:
                if one == other and text[place] in signs:
                    found |= {(marks, *more) for more in onward(place + 1, further)}
        return frozenset(found)
    return {row_told(machine[0], marks) for start in machine[2] for marks in onward(0, start)}


def row_told(names, marks):
    """The row that has these marks at the places."""
    begins = {name: place for place, told in enumerate(marks) for name, which in told if which == 0}
    ends = {name: place for place, told in enumerate(marks) for name, which in told if which == 1}
    return tuple((begins[name], ends[name]) if name in begins else None for name in names)


def all_rows(names, length):
    """All rows of the names in a text of that length."""
    return list(itertools.product(pieces(length), repeat=len(names)))


def all_runs(machine, text, row):
    """All runs for the row, one by one."""
    runs = [(start,) for start in machine[2]]
    for place in range(len(text) + 1):
        asked = plain_marks(row, machine[0], place)
        runs = [(*run, other) for run in runs for marks, other in sorted(set(marks_and_states(machine, run[-1])))
                if marks == asked]
        if place < len(text):
            leads = {(one, other) for one, signs, other in machine[5] if text[place] in signs}
            runs = [(*run, other) for run in runs for one, other in leads if one == run[-1]]
    return sorted({run for run in runs if run[-1] in machine[3]})


def is_bar(machine, text, row, bar):
    """Whether it is a bar, by the words of [24]."""
    if type(bar) is not tuple or len(bar) != 2 * len(text) + 2:
        return False
    for states in bar:
        if type(states) is not tuple or any(type(state) is not int for state in states):
            return False
        if list(states) != sorted(set(states)) or not set(states) <= set(range(len(machine[1]))):
            return False
    if not set(machine[2]) <= set(bar[0]) or set(machine[3]) & set(bar[-1]):
        return False
    for at in range(1, len(bar)):
        if at % 2 == 1:
            asked = plain_marks(row, machine[0], at // 2)
            needed = {other for one in bar[at - 1] for marks, other in marks_and_states(machine, one) if marks == asked}
        else:
            sign = text[at // 2 - 1]
            needed = {other for one, signs, other in machine[5] if one in bar[at - 1] and sign in signs}
        if not needed <= set(bar[at]):
            return False
    return True


def is_plain_machine(thing):
    """Whether it is a machine, by the words of [22]."""
    if type(thing) is not tuple or len(thing) != 6 or any(type(part) is not tuple for part in thing):
        return False
    names, states, starts, ends, steps, reads = thing
    if not all(type(name) is str and 1 <= len(name) <= 8 and set(name) <= set("abcdefghijklmnopqrstuvwxyz")
               for name in names):
        return False
    if len(names) > 4 or list(names) != sorted(set(names)) or not 1 <= len(states) <= 400:
        return False
    for stand in states:
        if type(stand) is not tuple or len(stand) != len(names) or any(type(one) is not int for one in stand):
            return False
        if any(one not in (0, 1, 2) for one in stand):
            return False
    for some in (starts, ends):
        if any(type(state) is not int or not 0 <= state < len(states) for state in some):
            return False
        if list(some) != sorted(set(some)):
            return False
    if any(any(states[state]) for state in starts) or any(1 in states[state] for state in ends):
        return False
    return len(steps) + len(reads) <= 12000 and are_plain_moves(names, states, steps, reads)


def are_plain_moves(names, states, steps, reads):
    for move in (*steps, *reads):
        if type(move) is not tuple or len(move) != 3:
            return False
        if any(type(state) is not int or not 0 <= state < len(states) for state in (move[0], move[2])):
            return False
    for state, marks, other in steps:
        if repr(marks) != repr(change(names, states[state], states[other])):
            return False
    for state, signs, other in reads:
        if type(signs) is not str or signs == "" or not set(signs) <= set(" abcdefghijklmnopqrstuvwxyz"):
            return False
        if list(signs) != sorted(set(signs)) or states[state] != states[other]:
            return False
    return list(steps) == sorted(set(steps)) and list(reads) == sorted(set(reads))
