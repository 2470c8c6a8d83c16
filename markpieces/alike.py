"""Whether two machines tell the same rows for every text."""

from markpieces.bits import bits_in
from markpieces.both import Both
from markpieces.naming import refuse_unlike
from markpieces.order import row_by
from markpieces.search import searched


def alike(one, other):
    """("alike", a likeness) or ("parted", text, row, which), with a text as short as any."""
    refuse_unlike(one[0], other[0])
    both = Both(one, other)
    pairs, turns, odd = searched(both.starts, lambda pair: both.odd_end(pair), lambda here: both.pairs_on(here))
    if turns is None:
        return ("alike", tuple(sorted([(tuple(bits_in(some)), tuple(bits_in(others))) for some, others in pairs])))
    marks, which = odd
    text = "".join([sign for between, sign in turns])
    row = row_by([*[between for between, sign in turns], marks], one[0])
    return ("parted", text, row, which)
