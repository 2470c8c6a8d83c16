"""What kind of value a thing is."""


def is_number(thing):
    """Whether thing, whatever it is, is a number: True and False are none."""
    return isinstance(thing, int) and not isinstance(thing, bool)
