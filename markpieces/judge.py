"""Judging a pattern: idle, marking a name twice, or sound."""

from markpieces.patterns import blank, forms_of, names_of, parts_of


def judged(pattern):
    """("idle",), else ("twice", name, text, way), else ("sound",)."""
    if is_idle(pattern):
        return ("idle",)
    for name in names_of(pattern):
        if times_marked(pattern, name) == 2:
            text, way = way_marking(pattern, name, 2, 0)
            return ("twice", name, text, way)
    return ("sound",)


def is_idle(pattern):
    """Whether the pattern goes through some blank part as often as one likes."""
    return any([is_endless(form) and blank(form[3]) for form in forms_of(pattern)])


def is_endless(form):
    """Whether the form is a some with high None."""
    return form[0] == "some" and form[2] is None


def times_marked(pattern, name):
    """How often one way can mark the name at most: 0, 1, or 2 for twice and more."""
    within = [times_marked(part, name) for part in parts_of(pattern)]
    kind = pattern[0]
    if kind == "any":
        return max(within)
    if kind == "mark" and pattern[1] == name:
        return min(2, within[0] + 1)
    if is_endless(pattern) and within[0] > 0:
        return 2
    return min(2, sum(within))


# The functions below tell (text, way): a way from place at on, through just that text, that
# marks the name at least so many times; they are asked where some way of the pattern does.


def way_marking(pattern, name, many, at):
    """A text and a way of the pattern that marks the name at least many times."""
    kind = pattern[0]
    if kind == "sign":
        return pattern[1][0], at
    if kind == "any":
        return choice_marking(pattern[1], name, many, at)
    if kind == "mark":
        rest = max(0, many - 1) if pattern[1] == name else many
        return way_marking(pattern[2], name, rest, at)
    if kind == "row":
        return chain_marking(shared_out(pattern[1], name, many), name, at)
    return chain_marking(repeated(pattern, name, many), name, at)


def choice_marking(parts, name, many, at):
    """Of an any: through the part that needs the shortest text."""
    best = None
    for k, part in enumerate(parts):
        if times_marked(part, name) >= many:
            text, way = way_marking(part, name, many, at)
            if best is None or len(text) < len(best[0]):
                best = (text, (k, way))
    return best


def shared_out(parts, name, many):
    """A list of (part, how many of the times it is to mark the name)."""
    shares = []
    for part in parts:
        share = min(many, times_marked(part, name))
        shares.append((part, share))
        many -= share
    return shares


def repeated(pattern, name, many):
    """The same of a some: its part, as few times as will do."""
    part = pattern[3]
    if many == 0:
        return [(part, 0)] * pattern[1]
    if times_marked(part, name) >= many:
        return [(part, many)]
    return [(part, 1), (part, 1)]


def chain_marking(shares, name, at):
    """Through the parts one behind another, each with its share."""
    text = ""
    ways = []
    for part, share in shares:
        more, way = way_marking(part, name, share, at + len(text))
        text += more
        ways.append(way)
    return text, tuple(ways)
