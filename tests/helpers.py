"""What several tests need: patterns of all sorts, odd things, and plain slow oracles."""

import functools
import itertools
import random

SIGNS = " abcdefghijklmnopqrstuvwxyz"
TIMES = ((0, 1), (0, None), (1, None))
EMPTY = ("row", ())
A = ("sign", "a")
B = ("sign", "b")


def nested(depth, core=()):
    """A tuple within a tuple, so many within one another."""
    for _ in range(depth - 1):
        core = (core,)
    return core


def odd_things():
    """Things of every kind that may stand where "whatever it is" stands."""
    things = [None, True, False, 0, 1, 2, -1, 3, 10 ** 39, -(10 ** 39), 10 ** 40 - 1]
    things += ["", " ", "a", "b", "A", "sign", "row", "any", "some", "mark", "a" * 400, "~" * 400]
    things += [(), [], ((),), [[]], ([],), [()], (None,), [None], (True,), (0,), (0, 1), [0, 1]]
    things += [(0, ()), (True, ()), (0, 0), (1, 0), (0, None), ("a",), ("sign",), ("row",)]
    things += [nested(12), nested(12, []), nested(12, ("row", ())), (0,) * 1999, [0] * 1999]
    things += [("sign", "a") * 900, ("row", (("sign", "a"),) * 600), ("row", ((),) * 1900)]
    things += ["\u00e9", "\n", "a\n", "\ud800", "\u0131", "0", "1"]
    return things


def variants(thing, numbers):
    """Some copies of the thing with one part changed, left out or put in somewhere."""
    return [varied(thing, numbers) for _ in range(30)]


def varied(thing, numbers):
    """One such copy."""
    if isinstance(thing, (tuple, list)) and thing and numbers.random() < 0.8:
        parts = list(thing)
        at = numbers.randrange(len(parts))
        deed = numbers.randrange(6)
        if deed == 0:
            del parts[at]
        elif deed == 1:
            parts.insert(at, numbers.choice(odd_things()))
        elif deed == 2:
            parts.insert(at, parts[at])
        else:
            parts[at] = varied(parts[at], numbers)
        return tuple(parts)
    deed = numbers.randrange(3)
    if deed == 0 and isinstance(thing, tuple):
        return list(thing)
    if deed == 1 and isinstance(thing, int):
        return thing + numbers.choice((-1, 1))
    if deed == 2 and isinstance(thing, int) and thing in (0, 1):
        return bool(thing)
    return numbers.choice(odd_things())


def frozen(thing):
    """The thing as a text in which True isn't 1 and a list isn't a tuple."""
    return repr(thing)


def small_patterns(forms, names="x", signs="a"):
    """A list of all patterns of just so many forms, each sign form of just these signs."""
    return list(built(forms, names, signs))


@functools.lru_cache(maxsize=None)
def built(forms, names, signs):
    if forms == 1:
        return (("sign", signs), EMPTY)
    found = []
    for part in built(forms - 1, names, signs):
        found += [("some", low, high, part) for low, high in TIMES]
        found += [("mark", name, part) for name in names]
    for many in range(2, forms):
        for sizes in itertools.product(range(1, forms), repeat=many):
            if sum(sizes) == forms - 1:
                for parts in itertools.product(*[built(size, names, signs) for size in sizes]):
                    found += [(kind, parts) for kind in ("row", "any") if all(p[0] != kind for p in parts)]
    return tuple(found)


def chance_pattern(numbers, depth=4, names="xyz", signs="ab "):
    """A pattern by chance; one of many forms where depth is large."""
    kind = numbers.choice(("sign", "row", "any", "some", "mark")) if depth > 1 else "leaf"
    if kind == "some":
        return ("some", *numbers.choice(TIMES), chance_pattern(numbers, depth - 1, names, signs))
    if kind == "mark":
        return ("mark", numbers.choice(names), chance_pattern(numbers, depth - 1, names, signs))
    if kind in ("row", "any"):
        parts = []
        many = numbers.choice((2, 2, 3)) if kind == "any" else numbers.choice((0, 2, 2, 3))
        while len(parts) < many:
            part = chance_pattern(numbers, depth - 1, names, signs)
            if part[0] != kind:
                parts.append(part)
        return (kind, tuple(parts))
    if numbers.random() < 0.15:
        return EMPTY
    if numbers.random() < 0.1:
        return ("sign", SIGNS)
    return ("sign", "".join(sorted(numbers.sample(signs, numbers.randint(1, 2)))))


def chance_patterns(seed, many, **told):
    """So many patterns by chance, each within the bounds; the same ones for the same seed."""
    numbers = random.Random(seed)
    found = []
    while len(found) < many:
        pattern = chance_pattern(numbers, **told)
        if count_forms(pattern) <= 60:
            found.append(pattern)
    return found


def inner(pattern):
    """The forms right within a form."""
    return [p for p in pattern[-1] if isinstance(p, tuple)] if pattern[0] in ("row", "any") else [
        p for p in pattern[-1:] if isinstance(p, tuple)]


def count_forms(pattern):
    return 1 + sum(count_forms(part) for part in inner(pattern))


def count_depth(pattern):
    return 1 + max([count_depth(part) for part in inner(pattern)], default=0)


def is_idle(pattern):
    """Whether some with high None holds what goes through nothing."""
    here = pattern[0] == "some" and pattern[2] is None and goes_through(pattern[3], "")
    return here or any(is_idle(part) for part in inner(pattern))


def goes_through(pattern, text):
    """Whether the pattern goes through the whole text."""
    return len(text) in ends(pattern, text, 0)


def ends(pattern, text, at):
    """All places to which the pattern comes from place at on."""
    kind = pattern[0]
    if kind == "sign":
        return {at + 1} if at < len(text) and text[at] in pattern[1] else set()
    if kind == "row":
        places = {at}
        for part in pattern[1]:
            places = {end for place in places for end in ends(part, text, place)}
        return places
    if kind == "any":
        return {end for part in pattern[1] for end in ends(part, text, at)}
    if kind == "mark":
        return ends(pattern[2], text, at)
    places = {at} if pattern[1] == 0 else set()
    fresh = ends(pattern[3], text, at)
    while not fresh <= places:
        places |= fresh
        if pattern[2] is None:
            fresh = {end for place in fresh for end in ends(pattern[3], text, place)}
    return places


def all_ways(pattern, text, at):
    """All (way, end, pieces) of a pattern that isn't idle, from place at on."""
    kind = pattern[0]
    if kind == "sign":
        return [(at, at + 1, ())] if at < len(text) and text[at] in pattern[1] else []
    if kind == "row":
        return chained(pattern[1], text, at)
    if kind == "any":
        return [((k, way), end, pieces) for k, part in enumerate(pattern[1])
                for way, end, pieces in all_ways(part, text, at)]
    if kind == "mark":
        return [(way, end, pieces + ((pattern[1], at, end),)) for way, end, pieces in all_ways(pattern[2], text, at)]
    most = len(text) - at if pattern[2] is None else 1
    return [found for many in range(pattern[1], max(most, pattern[1]) + 1)
            for found in chained((pattern[3],) * many, text, at)]


def chained(parts, text, at):
    found = [((), at, ())]
    for part in parts:
        found = [((*ways, way), end, pieces + more) for ways, place, pieces in found
                 for way, end, more in all_ways(part, text, place)]
    return found


def whole_ways(pattern, text):
    """All whole (way, pieces) of a pattern that isn't idle."""
    return [(way, pieces) for way, end, pieces in all_ways(pattern, text, 0) if end == len(text)]


def texts(signs, most):
    """All texts of these signs, at most so long."""
    return ["".join(told) for many in range(most + 1) for told in itertools.product(signs, repeat=many)]


def plain_marks(row, names, place):
    """The marks at a place, by the words of [14]."""
    found = [(name, 0) for name, piece in zip(names, row) if piece is not None and piece[0] == place]
    found += [(name, 1) for name, piece in zip(names, row) if piece is not None and piece[1] == place]
    return tuple(sorted(found))


def plain_order(names):
    """A key for sorted that compares two rows place by place."""
    def compared(one, other):
        for place in range(220):
            marks, others = plain_marks(one, names, place), plain_marks(other, names, place)
            if marks != others:
                if marks == () or others == ():
                    return 1 if marks == () else -1
                return -1 if marks < others else 1
        return 0
    return functools.cmp_to_key(compared)


def pieces(most):
    """None, and all pieces of a text of so many signs."""
    return [None] + [(begin, end) for begin in range(most + 1) for end in range(begin, most + 1)]


def told(rows, names):
    """A tuple of the rows, each once, in the told order, by comparing them place by place."""
    return tuple(sorted(set(rows), key=plain_order(names)))


def names_within(pattern):
    """The names of the marks within, each as often as it stands there."""
    own = [pattern[1]] if pattern[0] == "mark" else []
    return own + [name for part in inner(pattern) for name in names_within(part)]


def marks_twice(pattern):
    """The last words of [12]: two parts of a row, a mark of that name, a some with high None."""
    parts = inner(pattern)
    if any(marks_twice(part) for part in parts):
        return True
    if pattern[0] == "row":
        seen = [name for part in parts for name in set(names_within(part))]
        return len(seen) > len(set(seen))
    if pattern[0] == "mark":
        return pattern[1] in names_within(pattern[2])
    return pattern[0] == "some" and pattern[2] is None and names_within(pattern) != []


def is_sound(pattern):
    return not is_idle(pattern) and not marks_twice(pattern)


def ways_by_row(pattern, text):
    """{row: all whole ways to it} of a sound pattern, by going through all ways one by one."""
    names = sorted(set(names_within(pattern)))
    found = {}
    for way, marked in whole_ways(pattern, text):
        row = dict((name, (begin, end)) for name, begin, end in marked)
        found.setdefault(tuple(row.get(name) for name in names), []).append(way)
    return found


def sound_patterns(seed, many, **told_of):
    """So many sound patterns by chance, each within the bounds."""
    numbers = random.Random(seed)
    found = []
    while len(found) < many:
        pattern = chance_pattern(numbers, **told_of)
        if count_forms(pattern) <= 60 and is_sound(pattern):
            found.append(pattern)
    return found


def few_ways(pattern, text, most=3000):
    """Whether going through all ways is soon done."""
    return count_ways(pattern, text, 0, {}) <= most


def count_ways(pattern, text, at, known):
    """How many ways there are from place at on, to wherever they come."""
    return sum(ways_to_ends(pattern, text, at, known).values())


def ways_to_ends(pattern, text, at, known):
    """{end: how many ways there are to it}."""
    key = (id(pattern), at)
    if key not in known:
        known[key] = counted(pattern, text, at, known)
    return known[key]


def counted(pattern, text, at, known):
    kind = pattern[0]
    if kind == "sign":
        return {at + 1: 1} if at < len(text) and text[at] in pattern[1] else {}
    found = {}
    if kind == "any":
        for part in pattern[1]:
            add_up(found, ways_to_ends(part, text, at, known), 1)
        return found
    if kind == "mark":
        return ways_to_ends(pattern[2], text, at, known)
    if kind == "row":
        found = {at: 1}
        for part in pattern[1]:
            found = one_more(part, text, found, known)
        return found
    times = {at: 1}
    for many in range(len(text) + 2 if pattern[2] is None else 2):
        if many >= pattern[1]:
            add_up(found, times, 1)
        times = one_more(pattern[3], text, times, known)
    return found


def one_more(part, text, times, known):
    found = {}
    for place, many in times.items():
        add_up(found, ways_to_ends(part, text, place, known), many)
    return found


def add_up(found, more, times):
    for end, many in more.items():
        found[end] = found.get(end, 0) + many * times


def walked(plan, path=()):
    """All (path, form), the parts of a form from the left ahead of itself."""
    within = {"pattern": (), "only": plan[2:], "same": plan[3:]}.get(plan[0], plan[1:])
    found = []
    for k, part in enumerate(within):
        found += walked(part, (*path, k))
    return found + [(path, plan)]


def plain_names(plan):
    """The names of a plan whose faults don't matter."""
    if plan[0] == "pattern":
        return set(names_within(plan[1]))
    if plan[0] == "only":
        return set(plan[1])
    if plan[0] in ("join", "either"):
        return plain_names(plan[1]) | plain_names(plan[2])
    return plain_names(plan[3] if plan[0] == "same" else plan[1])


def fault_here(plan):
    """The fault of the form itself, by the words, where all within it is sound."""
    if plan[0] == "pattern":
        return "idle" if is_idle(plan[1]) else None if is_sound(plan[1]) else "twice"
    if plan[0] in ("join", "either"):
        return "names" if len(plain_names(plan)) > 4 else None
    if plan[0] == "without":
        return None if plain_names(plan[1]) == plain_names(plan[2]) else "unlike"
    asked = set(plan[1]) if plan[0] == "only" else {plan[1], plan[2]}
    return None if asked <= plain_names(plan[-1]) else "lacking"


def plain_fault(plan):
    for path, form in walked(plan):
        if fault_here(form) is not None:
            return (path, fault_here(form))
    return None


def chance_plan(numbers, depth, patterns, names="abxy"):
    """A plan by chance, often at fault; its patterns are taken from these."""
    kind = numbers.choice(("join", "either", "without", "only", "same")) if depth > 1 else "pattern"
    if kind == "pattern" or numbers.random() < 0.2:
        return ("pattern", numbers.choice(patterns))
    if kind == "only":
        some = tuple(sorted(numbers.sample(names, numbers.randint(0, 2))))
        return ("only", some, chance_plan(numbers, depth - 1, patterns, names))
    if kind == "same":
        return ("same", numbers.choice(names), numbers.choice(names), chance_plan(numbers, depth - 1, patterns, names))
    one = chance_plan(numbers, depth - 1, patterns, names)
    other = one if numbers.random() < 0.3 else chance_plan(numbers, depth - 1, patterns, names)
    return (kind, one, other)
