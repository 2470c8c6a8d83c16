"""Ways of a pattern through a text, and the pieces that they mark."""

from markpieces.kinds import is_number
from markpieces.patterns import names_of


def way_end(pattern, text, way, at):
    """The place to which way, whatever it is, comes from place at on; None where it is no way."""
    if not fits(pattern, way):
        return None
    if pattern[0] == "sign":
        goes = way == at and at < len(text) and text[at] in pattern[1]
        return at + 1 if goes else None
    for part, inner in stretches(pattern, way):
        at = way_end(part, text, inner, at)
        if at is None:
            return None
    return at


def way_holds(pattern, text, way):
    """Whether way, whatever it is, goes from place 0 to the text's length."""
    return way_end(pattern, text, way, 0) == len(text)


def fits(pattern, way):
    """Whether the thing is made as a way of the pattern's outermost form must be."""
    kind = pattern[0]
    if kind == "mark":
        return True
    if kind == "sign":
        return is_number(way)
    if not isinstance(way, tuple):
        return False
    if kind == "row":
        return len(way) == len(pattern[1])
    if kind == "any":
        return len(way) == 2 and is_number(way[0]) and 0 <= way[0] < len(pattern[1])
    return pattern[1] <= len(way) and (pattern[2] is None or len(way) <= pattern[2])


def stretches(pattern, way):
    """Of any form but a sign: a list of (part, way of it), one behind another."""
    kind = pattern[0]
    if kind == "row":
        return list(zip(pattern[1], way))
    if kind == "any":
        return [(pattern[1][way[0]], way[1])]
    if kind == "some":
        return [(pattern[3], inner) for inner in way]
    return [(pattern[2], way)]


def pieces_of(pattern, way, at):
    """A tuple of (name, begin, end) for the marks of a way from place at on, by their ends."""
    found = []
    gather(pattern, way, at, found)
    return tuple(found)


def gather(pattern, way, at, found):
    """Puts the pieces of the way into found; tells the place to which it comes."""
    if pattern[0] == "sign":
        return at + 1
    end = at
    for part, inner in stretches(pattern, way):
        end = gather(part, inner, end, found)
    if pattern[0] == "mark":
        found.append((pattern[1], at, end))
    return end


def row_of(pattern, way):
    """The row of a whole way of a sound pattern."""
    marked = {name: (begin, end) for name, begin, end in pieces_of(pattern, way, 0)}
    return tuple([marked.get(name) for name in names_of(pattern)])
