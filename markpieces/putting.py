"""Whether something may be put into a text."""

from markpieces.errors import Foreign, TooLong
from markpieces.signs import LONG, SIGNS


def refuse_put(put, length):
    """Raises TooLong where the text would be too long, having that length; else Foreign for what is no sign in put."""
    if length > LONG:
        raise TooLong(length)
    for place, one in enumerate(put):
        if one not in SIGNS:
            raise Foreign(place)
