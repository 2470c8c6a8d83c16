"""What tests of rules need: the rules once more, rule by rule, by their words, and plans by chance."""

from markpieces.read import read
from tests.helpers import plain_fault, plain_names, walked

ROWS = ("<x:a>|<x:>b?", "<x:a*>.*", "<x:a*><y:b*>", "<x:a?><y:a?>|b", ".*<y:.>", "<z:b*>a*", "<w:.*>", "<v:.*>", "a*|b",
        "<x:.>?<z:.>?")
PATTERNS = tuple(("pattern", read(text)) for text in ROWS)
LOWERING = (5, 6, 7, 12, 14, 15, 16, 17)


def names(plan):
    return tuple(sorted(plain_names(plan)))


def part(some, plan):
    """N & p."""
    return tuple(name for name in some if name in plain_names(plan))


def forth(rule, form):
    """What stands right of the rule, for the form as what stands left; None where that can't be."""
    match rule, form:
        case 0, ("join", p, q):
            return ("join", q, p)
        case 1, ("join", ("join", p, q), r):
            return ("join", p, ("join", q, r))
        case 2, ("either", p, q):
            return ("either", q, p)
        case 3, ("either", ("either", p, q), r):
            return ("either", p, ("either", q, r))
        case 4, ("join", p, ("either", q, r)) if names(q) == names(r):
            return ("either", ("join", p, q), ("join", p, r))
        case 5, ("only", n, ("either", p, q)):
            return ("either", ("only", part(n, p), p), ("only", part(n, q), q))
        case 6, ("only", n, ("only", _, p)):
            return ("only", n, p)
        case 7, ("only", n, p) if n == names(p):
            return p
        case (8, ("join", p, q)) | (9, ("either", p, q)) if p == q:
            return p
        case 10, ("without", ("either", p, q), r) if names(p) == names(q):
            return ("either", ("without", p, r), ("without", q, r))
        case 11, ("without", ("without", p, q), r) if names(p) == names(q) == names(r):
            return ("without", p, ("either", q, r))
        case 12, ("only", n, ("join", p, q)) if set(names(p)) & set(names(q)) <= set(n):
            return ("join", ("only", part(n, p), p), ("only", part(n, q), q))
        case 13, ("same", x, y, p):
            return ("same", y, x, p)
        case 14, ("same", x, y, ("either", p, q)) if {x, y} <= set(names(p)) and {x, y} <= set(names(q)):
            return ("either", ("same", x, y, p), ("same", x, y, q))
        case 15, ("same", x, y, ("join", p, q)) if {x, y} <= set(names(p)):
            return ("join", ("same", x, y, p), q)
        case 16, ("same", x, y, ("only", n, p)) if {x, y} <= set(n):
            return ("only", n, ("same", x, y, p))
        case 17, ("same", x, y, ("without", p, q)):
            return ("without", ("same", x, y, p), q)
        case 18, ("same", x, y, ("same", z, w, p)):
            return ("same", z, w, ("same", x, y, p))
        case 19, ("join", ("without", p, q), r) if names(p) == names(q):
            return ("without", ("join", p, r), ("join", q, r))
    return None


def backward(rule, form):
    """What stands left of the rule, for the form as what stands right; None where that can't be."""
    match rule, form:
        case 0, ("join", p, q):
            return ("join", q, p)
        case 1, ("join", p, ("join", q, r)):
            return ("join", ("join", p, q), r)
        case 2, ("either", p, q):
            return ("either", q, p)
        case 3, ("either", p, ("either", q, r)):
            return ("either", ("either", p, q), r)
        case 4, ("either", ("join", p, q), ("join", s, r)) if p == s and names(q) == names(r):
            return ("join", p, ("either", q, r))
        case 5, ("either", ("only", a, p), ("only", b, q)):
            n = tuple(sorted({*a, *b}))
            return ("only", n, ("either", p, q)) if (a, b) == (part(n, p), part(n, q)) else None
        case 7, _:
            return ("only", names(form), form)
        case 8, _:
            return ("join", form, form)
        case 9, _:
            return ("either", form, form)
        case 10, ("either", ("without", p, r), ("without", q, s)) if r == s and names(p) == names(q):
            return ("without", ("either", p, q), r)
        case 11, ("without", p, ("either", q, r)) if names(p) == names(q) == names(r):
            return ("without", ("without", p, q), r)
        case 12, ("join", ("only", a, p), ("only", b, q)):
            n = tuple(sorted({*a, *b}))
            fits = (a, b) == (part(n, p), part(n, q)) and set(names(p)) & set(names(q)) <= set(n)
            return ("only", n, ("join", p, q)) if fits else None
        case 13, ("same", x, y, p):
            return ("same", y, x, p)
        case 14, ("either", ("same", x, y, p), ("same", z, w, q)) if (x, y) == (z, w):
            return ("same", x, y, ("either", p, q))
        case 15, ("join", ("same", x, y, p), q):
            return ("same", x, y, ("join", p, q))
        case 16, ("only", n, ("same", x, y, p)) if {x, y} <= set(n):
            return ("same", x, y, ("only", n, p))
        case 17, ("without", ("same", x, y, p), q):
            return ("same", x, y, ("without", p, q))
        case 18, ("same", x, y, ("same", z, w, p)):
            return ("same", z, w, ("same", x, y, p))
        case 19, ("without", ("join", p, r), ("join", q, s)) if r == s and names(p) == names(q):
            return ("join", ("without", p, q), r)
    return None


def put_in(plan, path, inner):
    """The plan with the inner one at the path."""
    if path == ():
        return inner
    at = path[0] + {"only": 2, "same": 3}.get(plan[0], 1)
    return plan[:at] + (put_in(plan[at], path[1:], inner),) + plan[at + 1:]


def deep(plan):
    return 1 + max(len(path) for path, form in walked(plan))


def done(plan, move):
    """What the move makes of the plan, by the words of [34]; None where it is refused."""
    path, rule, back = move
    form = dict(walked(plan))[path]
    put = backward(rule, form) if back else forth(rule, form)
    if put is None:
        return None
    whole = put_in(plan, path, put)
    forms = [inner for _, inner in walked(whole)]
    if len(forms) > 12 or deep(whole) > 6 or any(len(plain_names(inner)) > 4 for inner in forms):
        return None
    return whole


def all_moves(plan):
    return [(path, rule, back) for path, _ in walked(plan) for rule in range(20) for back in (0, 1)]


def some_plan(numbers, depth):
    """A sound plan by chance, of the patterns above."""
    while True:
        plan = any_plan(numbers, depth)
        if plain_fault(plan) is None and len(walked(plan)) <= 12:
            return plan


def any_plan(numbers, depth):
    """A plan by chance, sound more often than not."""
    if depth == 1 or numbers.random() < 0.2:
        return numbers.choice(PATTERNS)
    kind = numbers.choice(("join", "either", "without", "only", "same"))
    one = any_plan(numbers, depth - 1)
    known = sorted(plain_names(one))
    if kind == "only":
        return ("only", tuple(name for name in known if numbers.random() < 0.7), one)
    if kind == "same":
        return ("same", numbers.choice(known), numbers.choice(known), one) if known else one
    other = one if numbers.random() < 0.25 else any_plan(numbers, depth - 1)
    if kind == "without" and plain_names(one) != plain_names(other):
        shared = tuple(sorted(plain_names(one) & plain_names(other)))
        one, other = (("only", shared, one), ("only", shared, other))
    return (kind, one, other)


def sided_plan(numbers, rule, back):
    """A sound plan with a form of the rule's side somewhere, more often than not; and that path."""
    while True:
        p, q, r = (some_plan(numbers, numbers.choice((1, 1, 2))) for _ in range(3))
        if numbers.random() < 0.7:
            q = ("only", names(p), q) if set(names(p)) < set(names(q)) else numbers.choice((p, q))
        if numbers.random() < 0.5:
            r = numbers.choice((p, q))
        form = side(numbers, rule, back, p, q, r)
        if form is not None and plain_fault(form) is None and len(walked(form)) <= 12 and deep(form) <= 6:
            return wrapped(numbers, form)


def wrapped(numbers, form):
    """The form within a plan, or by itself, and the path that leads to it."""
    around = [(form, ()), (("join", form, PATTERNS[8]), (0,)), (("either", PATTERNS[8], form), (1,)),
              (("only", (), form), (0,)), (("without", form, form), (1,))]
    sound = [one for one in around if len(walked(one[0])) <= 12 and deep(one[0]) <= 6]
    return numbers.choice(sound)


def side(numbers, rule, back, p, q, r):
    """A form that is of the side, but perhaps for what must be equal or hold."""
    known = sorted(plain_names(p)) or ["x"]
    x, y, z, w = (numbers.choice(known) for _ in range(4))
    every = sorted(plain_names(p) | plain_names(q))
    n = tuple(name for name in every if numbers.random() < 0.8)
    np, nq = (tuple(name for name in n if name in plain_names(plan) and numbers.random() < 0.95) for plan in (p, q))
    other = p if numbers.random() < 0.8 else r
    sides = {
        (0, 0): ("join", p, q), (0, 1): ("join", p, q), (1, 0): ("join", ("join", p, q), r), (1, 1): ("join", p, ("join", q, r)),
        (2, 0): ("either", p, q), (2, 1): ("either", p, q), (3, 0): ("either", ("either", p, q), r),
        (3, 1): ("either", p, ("either", q, r)), (4, 0): ("join", p, ("either", q, r)),
        (4, 1): ("either", ("join", p, q), ("join", other, r)), (5, 0): ("only", n, ("either", p, q)),
        (5, 1): ("either", ("only", np, p), ("only", nq, q)), (6, 0): ("only", n, ("only", names(p), p)), (6, 1): ("only", n, p),
        (7, 0): ("only", names(p) if numbers.random() < 0.7 else n, p), (7, 1): p, (8, 0): ("join", p, other), (8, 1): p,
        (9, 0): ("either", p, other), (9, 1): p, (10, 0): ("without", ("either", p, q), r),
        (10, 1): ("either", ("without", p, r), ("without", q, r)), (11, 0): ("without", ("without", p, q), r),
        (11, 1): ("without", p, ("either", q, r)), (12, 0): ("only", n, ("join", p, q)),
        (12, 1): ("join", ("only", np, p), ("only", nq, q)), (13, 0): ("same", x, y, p), (13, 1): ("same", x, y, p),
        (14, 0): ("same", x, y, ("either", p, q)),
        (14, 1): ("either", ("same", x, y, p), ("same", *numbers.choice(((x, y), (x, y), (z, w))), q)),
        (15, 0): ("same", x, y, ("join", *numbers.choice(((p, q), (q, p))))), (15, 1): ("join", ("same", x, y, p), q),
        (16, 0): ("same", x, y, ("only", names(p), p)), (16, 1): ("only", n, ("same", x, y, p)),
        (17, 0): ("same", x, y, ("without", p, q)), (17, 1): ("without", ("same", x, y, p), q),
        (18, 0): ("same", x, y, ("same", z, w, p)), (18, 1): ("same", x, y, ("same", z, w, p)),
        (19, 0): ("join", ("without", p, q), r), (19, 1): ("without", ("join", p, r), ("join", q, r)),
    }
    return sides[rule, back]
