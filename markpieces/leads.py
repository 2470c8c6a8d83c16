"""Where the steps and reads of a machine lead."""

from markpieces.bits import bits_in, bits_of


class Leads:
    """A machine made ready to be asked where sets of its states, as bits, lead."""

    def __init__(self, machine):
        self.starts = bits_of(machine[2])
        self.ends = bits_of(machine[3])
        self.by_marks = grouped(machine[4])
        self.by_signs = grouped(machine[5])
        self.any_marks = put_in_one(list(self.by_marks.values()))
        self.by_sign = {}

    def behind_marks(self, states, marks):
        """The states behind a step with just these marks, or, for (), behind staying."""
        found = led(states, self.by_marks.get(marks, {}))
        return found | states if marks == () else found

    def behind_any(self, states):
        """The states behind a step with whatever marks, or behind staying."""
        return states | led(states, self.any_marks)

    def behind_sign(self, states, sign):
        """The states behind a read of the sign."""
        return led(states, self.group_of(sign))

    def group_of(self, sign):
        """{state: the states behind a read of the sign, as bits}."""
        # Signs are few and asked again and again, so what is put together for one is kept.
        if sign not in self.by_sign:
            self.by_sign[sign] = put_in_one([self.by_signs[signs] for signs in self.by_signs if sign in signs])
        return self.by_sign[sign]


def grouped(moves):
    """{what stands in the middle of a move: {state: the states that it leads to, as bits}}."""
    groups = {}
    for state, middle, other in moves:
        group = groups.setdefault(middle, {})
        group[state] = group.get(state, 0) | (1 << other)
    return groups


def moves_from(groups):
    """{state: a list of (what stands in the middle, the states that it leads to, as bits)}."""
    found = {}
    for middle, group in groups.items():
        for state in group:
            found.setdefault(state, []).append((middle, group[state]))
    return found


def put_in_one(groups):
    """One {state: states} of them all."""
    whole = {}
    for group in groups:
        for state in group:
            whole[state] = whole.get(state, 0) | group[state]
    return whole


def led(states, group):
    """All states to which the group leads from one of the states."""
    found = 0
    for state in bits_in(states):
        found |= group.get(state, 0)
    return found
