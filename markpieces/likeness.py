"""Likeness of two machines, and partings, which show that they are unlike."""

from markpieces.bits import bits_of
from markpieces.both import Both
from markpieces.kinds import is_number, rise
from markpieces.leads import Leads
from markpieces.machines import are_states
from markpieces.runs import sets_along, turns_of
from markpieces.signs import SIGNS, all_among


def alike_holds(one, other, thing):
    """Whether thing, whatever it is, is a likeness of the two machines."""
    if one[0] != other[0] or not are_pairs(thing, len(one[1]), len(other[1])):
        return False
    both = Both(one, other)
    pairs = {(bits_of(some), bits_of(others)): True for some, others in thing}
    return both.starts in pairs and all([goes_on_within(both, pair, pairs) for pair in pairs])


def are_pairs(thing, count, other_count):
    """Whether thing is a tuple of pairs, rising, of machines with so many states."""
    if not isinstance(thing, tuple):
        return False
    return all([is_pair(pair, count, other_count) for pair in thing]) and rise(thing)


def is_pair(thing, count, other_count):
    """Whether thing is (some, others), tuples of states."""
    if not isinstance(thing, tuple) or len(thing) != 2:
        return False
    return are_states(thing[0], count) and are_states(thing[1], other_count)


def goes_on_within(both, pair, pairs):
    """Whether no marks part the pair, and all that it comes to next is among the pairs or empty."""
    return both.odd_end(pair) is None and all([further in pairs for further, marks, sign in both.pairs_on(pair)])


def part_holds(one, other, thing):
    """Whether thing, whatever it is, is a parting of the two machines."""
    if one[0] != other[0] or not stands_as_parting(thing, len(one[0])):
        return False
    text, row, which = thing
    told = [tells(machine, text, row) for machine in (one, other)]
    return told[which] and not told[1 - which]


def stands_as_parting(thing, width):
    """Whether thing is (text, row, which), the row of so many names and for the text."""
    if not isinstance(thing, tuple) or len(thing) != 3:
        return False
    text, row, which = thing
    if not isinstance(text, str) or not all_among(text, SIGNS):
        return False
    return is_row(row, width, len(text)) and is_number(which) and 0 <= which <= 1


def is_row(thing, width, length):
    """Whether thing is a row of so many names, for a text so long."""
    if not isinstance(thing, tuple) or len(thing) != width:
        return False
    return all([piece is None or is_piece(piece, length) for piece in thing])


def is_piece(thing, length):
    """Whether thing is a piece of a text so long."""
    if not isinstance(thing, tuple) or len(thing) != 2 or not is_number(thing[0]) or not is_number(thing[1]):
        return False
    return 0 <= thing[0] <= thing[1] <= length


def tells(machine, text, row):
    """Whether the machine tells the row for the text."""
    leads = Leads(machine)
    return (sets_along(leads, turns_of(machine[0], text, row))[-1] & leads.ends) != 0
