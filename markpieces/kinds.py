"""What kind of value a thing is, and whether things rise."""


def is_number(thing):
    """Whether thing, whatever it is, is a number: True and False are none."""
    return isinstance(thing, int) and not isinstance(thing, bool)


def rise(things):
    """Whether the things, which can be compared, rise, each once."""
    return all([one < other for one, other in zip(things, things[1:])])
