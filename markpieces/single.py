"""Whether a sound pattern tells each row by one way only."""

from markpieces.bits import bits_in
from markpieces.net import Net, marked
from markpieces.plain import ways_to
from markpieces.rails import FIRST, LAST
from markpieces.search import searched


def single(pattern):
    """("single",), or ("double", text, way, other): two ways through the text with the same row."""
    net = Net(pattern)
    # Two ways go on side by side, by the same marks and signs: a pair is where both are, and
    # whether they are unlike so far.
    first = (FIRST, FIRST, False)
    pairs, turns, marks = searched(first, lambda pair: last_marks(net, pair), lambda one: pairs_behind(net, one))
    if turns is None:
        return ("single",)
    text, row = told_by(net, turns, marks)
    way, other = ways_to(pattern, text, row, most=2)
    return ("double", text, way, other)


def last_marks(net, pair):
    """Marks by which both come to the end, being unlike then; None where there are none."""
    one, other, unlike = pair
    for marks in net.hops[one]:
        both = lead_to(net.hops[one], marks, LAST) and lead_to(net.hops[other], marks, LAST)
        if both and (unlike or lead_to(net.forks[one], marks, LAST)):
            return marks
    return None


def lead_to(hops, marks, position):
    """Whether one of these hops leads to the position by the marks."""
    return ((hops.get(marks, 0) >> position) & 1) == 1


def pairs_behind(net, pair):
    """A list of (pair, marks, sign): to which pairs both may come next, and by what."""
    one, other, unlike = pair
    found = []
    for marks in net.hops[one]:
        for next_one in bits_in(net.hops[one][marks]):
            for next_other in bits_in(net.hops[other].get(marks, 0)):
                shared = [sign for sign in net.signs[next_one] if sign in net.signs[next_other]]
                if shared:
                    # Ways that are alike so far part here, or by two paths to one position.
                    parts = next_one != next_other or lead_to(net.forks[one], marks, next_one)
                    found.append(((next_one, next_other, unlike or parts), marks, shared[0]))
    return found


def told_by(net, turns, marks):
    """The text and the row of these turns, each (marks, sign), with these marks at the end."""
    row = (None,) * len(net.names)
    for place, (between, sign) in enumerate([*turns, (marks, "")]):
        row = marked(row, between, place)
    return "".join([sign for between, sign in turns]), row
