"""Patterns: what they are made of, their names, and whether they go through nothing."""

from markpieces.kinds import is_number, rise
from markpieces.signs import SIGNS, all_among, is_name
from markpieces.trees import depth_within, forms_within

MOST_FORMS = 60
MOST_DEEP = 12
MOST_NAMES = 4

TIMES = ((0, 1), (0, None), (1, None))


def shaped(thing):
    """Whether thing, whatever it is, is a pattern."""
    names = {}
    forms = 0
    # A list of what is still to be looked at, not a recursion: what is far too deep
    # or far too large is then left as soon as a bound is passed.
    waiting = [(thing, 1)]
    while waiting:
        form, depth = waiting.pop()
        forms += 1
        if forms > MOST_FORMS or depth > MOST_DEEP or not stands_as_form(form):
            return False
        if form[0] == "mark":
            names[form[1]] = True
        waiting.extend([(part, depth + 1) for part in parts_of(form)])
    return len(names) <= MOST_NAMES


def stands_as_form(thing):
    """Whether thing is as some form tells, but for what is within its parts."""
    kind = kind_of(thing)
    if kind == "sign":
        return len(thing) == 2 and are_signs(thing[1])
    if kind == "row":
        return len(thing) == 2 and are_parts("row", thing[1]) and len(thing[1]) != 1
    if kind == "any":
        return len(thing) == 2 and are_parts("any", thing[1]) and len(thing[1]) >= 2
    if kind == "some":
        return len(thing) == 4 and are_times(thing[1], thing[2])
    if kind == "mark":
        return len(thing) == 3 and is_name(thing[1])
    return False


def kind_of(thing):
    """The word that thing begins with, or None."""
    if isinstance(thing, tuple) and len(thing) > 0 and isinstance(thing[0], str):
        return thing[0]
    return None


def are_signs(thing):
    """Whether thing is a text of one or more unlike signs, rising."""
    if not isinstance(thing, str) or not 1 <= len(thing) <= len(SIGNS):
        return False
    return all_among(thing, SIGNS) and rise(thing)


def are_parts(kind, thing):
    """Whether thing can be the parts of a form of this kind, which holds none of its own kind."""
    return isinstance(thing, tuple) and all([kind_of(part) != kind for part in thing])


def are_times(low, high):
    """Whether a some can have these as its low and high."""
    return is_number(low) and (high is None or is_number(high)) and (low, high) in TIMES


def parts_of(form):
    """A tuple of the forms that stand right within this one."""
    kind = form[0]
    if kind == "sign":
        return ()
    if kind == "some":
        return (form[3],)
    if kind == "mark":
        return (form[2],)
    return form[1]


def forms_of(pattern):
    """A list of all forms of the pattern, itself among them."""
    return forms_within(pattern, parts_of)


def depth_of(pattern):
    """How many forms stand within one another, the pattern itself counted."""
    return depth_within(pattern, parts_of)


def names_of(pattern):
    """A tuple of the names of the pattern's marks, rising, each once."""
    return tuple(sorted(set([form[1] for form in forms_of(pattern) if form[0] == "mark"])))


def blank(pattern):
    """Whether the pattern can go through the empty text."""
    kind = pattern[0]
    if kind == "sign":
        return False
    if kind == "some" and pattern[1] == 0:
        return True
    blanks = [blank(part) for part in parts_of(pattern)]
    return any(blanks) if kind == "any" else all(blanks)
