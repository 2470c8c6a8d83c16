"""Refusing what is asked of an object while it is at something."""

from markpieces.errors import Busy


def refuse_busy(busy):
    """Raises Busy where the object is at something."""
    if busy:
        raise Busy()
