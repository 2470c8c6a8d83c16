"""Reading a pattern's text."""

from markpieces.errors import Unfit, Unread
from markpieces.patterns import MOST_DEEP, MOST_FORMS, MOST_NAMES, depth_of, forms_of, names_of
from markpieces.signs import LETTERS, NAME_LONG, SIGNS

MOST_HELD = 20

# Behind an atom: how often it is gone through, as low and high.
REPEATS = {"?": (0, 1), "*": (0, None), "+": (1, None)}


def read(text):
    """The pattern of the text; Unread where it has none, Unfit where that is beyond a bound."""
    pattern, at = read_pattern(text, 0, 0)
    if at < len(text):
        raise Unread(at)
    refuse_unfit(pattern)
    return pattern


def refuse_unfit(pattern):
    """Raises Unfit for the first bound that the pattern is beyond."""
    if len(forms_of(pattern)) > MOST_FORMS:
        raise Unfit("forms")
    if depth_of(pattern) > MOST_DEEP:
        raise Unfit("deep")
    if len(names_of(pattern)) > MOST_NAMES:
        raise Unfit("names")


# Each of the functions below reads from place at on and tells what it read and the place
# behind it; held is how many ( and < are still to be closed there.


def read_pattern(text, at, held):
    """The branches up to what is neither a piece nor a | between."""
    branch, at = read_branch(text, at, held)
    branches = [branch]
    while text[at:at + 1] == "|":
        branch, at = read_branch(text, at + 1, held)
        branches.append(branch)
    return put_together("any", branches), at


def read_branch(text, at, held):
    """The pieces up to what begins none."""
    pieces = []
    while begins_atom(text[at:at + 1]):
        piece, at = read_piece(text, at, held)
        pieces.append(piece)
    return put_together("row", pieces), at


def put_together(kind, parts):
    """A form of the parts; those of its own kind give way to their parts, one part stands alone."""
    flat = []
    for part in parts:
        if part[0] == kind:
            flat.extend(part[1])
        else:
            flat.append(part)
    if len(flat) == 1:
        return flat[0]
    return (kind, tuple(flat))


def begins_atom(one):
    """Whether this sign begins an atom; "" stands for the text's end."""
    return one != "" and (one in SIGNS or one in ".[(<")


def read_piece(text, at, held):
    """An atom and what stands behind it for how often it is gone through."""
    atom, at = read_atom(text, at, held)
    times = REPEATS.get(text[at:at + 1])
    if times is None:
        return atom, at
    low, high = times
    return ("some", low, high, atom), at + 1


def read_atom(text, at, held):
    """One of the atoms; one stands at the place."""
    one = text[at]
    if one in SIGNS:
        return ("sign", one), at + 1
    if one == ".":
        return ("sign", SIGNS), at + 1
    if held == MOST_HELD:
        raise Unread(at)
    if one == "[":
        signs, at = read_signs(text, at + 1)
        return ("sign", signs), at
    if one == "(":
        pattern, at = read_pattern(text, at + 1, held + 1)
        return pattern, behind(text, at, ")")
    name, at = read_name(text, at + 1)
    pattern, at = read_pattern(text, behind(text, at, ":"), held + 1)
    return ("mark", name, pattern), behind(text, at, ">")


def behind(text, at, one):
    """The place behind this very sign; Unread where it isn't there."""
    if text[at:at + 1] != one:
        raise Unread(at)
    return at + 1


def read_name(text, at):
    """The longest name that begins at the place."""
    end = at
    while end < len(text) and end < at + NAME_LONG and text[end] in LETTERS:
        end += 1
    if end == at:
        raise Unread(at)
    return text[at:end], end


def read_signs(text, at):
    """The signs that the items behind a [ tell, or leave."""
    turned = text[at:at + 1] == "^"
    if turned:
        at += 1
    told, at = read_item(text, at)
    while text[at:at + 1] != "]":
        more, at = read_item(text, at)
        told += more
    signs = "".join([one for one in SIGNS if (one in told) != turned])
    if signs == "":
        raise Unread(at)
    return signs, at + 1


def read_item(text, at):
    """The signs of one item."""
    first = sign_at(text, at)
    if text[at + 1:at + 2] != "-":
        return first, at + 1
    last = sign_at(text, at + 2)
    if last < first:
        raise Unread(at + 2)
    return "".join([one for one in SIGNS if first <= one <= last]), at + 3


def sign_at(text, at):
    """The sign at the place; Unread where there is none."""
    if at >= len(text) or text[at] not in SIGNS:
        raise Unread(at)
    return text[at]
