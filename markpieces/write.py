"""Writing a pattern's text."""

from markpieces.signs import SIGNS


def write(pattern):
    """The pattern's text, which is read back as the same pattern."""
    kind = pattern[0]
    if kind == "sign":
        return write_signs(pattern[1])
    if kind == "row":
        return "".join([bracketed(part, ("any",)) for part in pattern[1]])
    if kind == "any":
        return "|".join([write(part) for part in pattern[1]])
    if kind == "some":
        return bracketed(pattern[3], ("row", "any", "some")) + write_times(pattern[1], pattern[2])
    return f"<{pattern[1]}:{write(pattern[2])}>"


def write_signs(signs):
    """The atom for any one of these signs."""
    if len(signs) == 1:
        return signs
    if signs == SIGNS:
        return "."
    return f"[{signs}]"


def bracketed(pattern, kinds):
    """The pattern's text, in ( ) where it is of one of these kinds."""
    if pattern[0] in kinds:
        return f"({write(pattern)})"
    return write(pattern)


def write_times(low, high):
    """What stands behind an atom that is gone through so often."""
    if high == 1:
        return "?"
    return "*" if low == 0 else "+"
