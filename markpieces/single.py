"""Whether a sound pattern tells each row by one way only."""

from markpieces.bits import bits_in
from markpieces.net import Net, marked
from markpieces.plain import ways_to
from markpieces.rails import FIRST, LAST


def single(pattern):
    """("single",), or ("double", text, way, other): two ways through the text with the same row."""
    net = Net(pattern)
    text, row = doubled(net)
    if text is None:
        return ("single",)
    way, other = ways_to(pattern, text, row, most=2)
    return ("double", text, way, other)


def doubled(net):
    """A shortest text, and a row, to which two ways lead; None and None where there are none.

    Two ways go on side by side, by the same marks and signs: a pair is where both are, and
    whether they are unlike so far. came has, of each pair, how it was come to.
    """
    waiting = [(FIRST, FIRST, False)]
    came = {waiting[0]: None}
    at = 0
    while at < len(waiting):
        pair = waiting[at]
        marks = last_marks(net, pair)
        if marks is not None:
            return told_by(net, came, pair, marks)
        for further, between, sign in pairs_behind(net, pair):
            if further not in came:
                came[further] = (pair, between, sign)
                waiting.append(further)
        at += 1
    return None, None


def last_marks(net, pair):
    """Marks by which both come to the end, being unlike then; None where there are none."""
    one, other, unlike = pair
    for marks in net.hops[one]:
        both = lead_to(net.hops[one], marks, LAST) and lead_to(net.hops[other], marks, LAST)
        if both and (unlike or lead_to(net.forks[one], marks, LAST)):
            return marks
    return None


def lead_to(hops, marks, position):
    """Whether one of these hops leads to the position by the marks."""
    return ((hops.get(marks, 0) >> position) & 1) == 1


def pairs_behind(net, pair):
    """A list of (pair, marks, sign): to which pairs both may come next, and by what."""
    one, other, unlike = pair
    found = []
    for marks in net.hops[one]:
        for next_one in bits_in(net.hops[one][marks]):
            for next_other in bits_in(net.hops[other].get(marks, 0)):
                shared = [sign for sign in net.signs[next_one] if sign in net.signs[next_other]]
                if shared:
                    # Ways that are alike so far part here, or by two paths to one position.
                    parts = next_one != next_other or lead_to(net.forks[one], marks, next_one)
                    found.append(((next_one, next_other, unlike or parts), marks, shared[0]))
    return found


def told_by(net, came, pair, marks):
    """The text and the row of what led to the pair and ends with these marks."""
    text = ""
    marks_from_last = [marks]
    while came[pair] is not None:
        pair, between, sign = came[pair]
        text = sign + text
        marks_from_last.append(between)
    row = (None,) * len(net.names)
    for place, told in enumerate(marks_from_last[::-1]):
        row = marked(row, told, place)
    return text, row
