"""The rules by which a plan is led to another that means the same."""

from markpieces.errors import NoMove
from markpieces.kinds import is_number
from markpieces.naming import all_names
from markpieces.patterns import MOST_NAMES
from markpieces.plans import MOST_DEEP_PLAN, MOST_PLANS, names_in, plans_within
from markpieces.trees import depth_within, forms_within

# The two sides of each rule: p, q, r stand for plans, x, y, z, w for names, all others for tuples of names.
RULES = (
    (("join", "p", "q"), ("join", "q", "p")),
    (("join", ("join", "p", "q"), "r"), ("join", "p", ("join", "q", "r"))),
    (("either", "p", "q"), ("either", "q", "p")),
    (("either", ("either", "p", "q"), "r"), ("either", "p", ("either", "q", "r"))),
    (("join", "p", ("either", "q", "r")), ("either", ("join", "p", "q"), ("join", "p", "r"))),
    (("only", "N", ("either", "p", "q")), ("either", ("only", "N&p", "p"), ("only", "N&q", "q"))),
    (("only", "N", ("only", "M", "p")), ("only", "N", "p")),
    (("only", "N", "p"), "p"),
    (("join", "p", "p"), "p"),
    (("either", "p", "p"), "p"),
    (("without", ("either", "p", "q"), "r"), ("either", ("without", "p", "r"), ("without", "q", "r"))),
    (("without", ("without", "p", "q"), "r"), ("without", "p", ("either", "q", "r"))),
    (("only", "N", ("join", "p", "q")), ("join", ("only", "N&p", "p"), ("only", "N&q", "q"))),
    (("same", "x", "y", "p"), ("same", "y", "x", "p")),
    (("same", "x", "y", ("either", "p", "q")), ("either", ("same", "x", "y", "p"), ("same", "x", "y", "q"))),
    (("same", "x", "y", ("join", "p", "q")), ("join", ("same", "x", "y", "p"), "q")),
    (("same", "x", "y", ("only", "N", "p")), ("only", "N", ("same", "x", "y", "p"))),
    (("same", "x", "y", ("without", "p", "q")), ("without", ("same", "x", "y", "p"), "q")),
    (("same", "x", "y", ("same", "z", "w", "p")), ("same", "z", "w", ("same", "x", "y", "p"))),
    (("join", ("without", "p", "q"), "r"), ("without", ("join", "p", "r"), ("join", "q", "r"))),
)

# Of these rules the plans for which the letters stand must have the same names, x and y among them.
ALIKE = {4: "qr", 10: "pq", 11: "pqr", 19: "pq"}
NAMED = {14: "pq", 15: "p"}
# Of these N is shared out between p and q.
SHARED_OUT = (5, 12)
ONE_WAY = 6
ALL_NAMES = 7
SHARED_KEPT = 12
NAMES_KEPT = 16


def moved(plan, move):
    """The sound plan with the form at the move's path put otherwise; NoMove where that can't be."""
    other = led_by(plan, move)
    if other is None:
        raise NoMove()
    return other


def led(plan, moves):
    """The plan behind all the moves, one behind another; NoMove as the first that is refused."""
    if not isinstance(moves, (list, tuple)):
        raise NoMove()
    for move in moves:
        plan = moved(plan, move)
    return plan


def led_by(plan, move):
    """The plan behind the move, whatever it is; None where it can't be done."""
    if not stands_as_move(move):
        return None
    path, rule, back = move
    form = form_at(plan, path)
    if form is None:
        return None
    put = put_otherwise(form, rule, back)
    if put is None:
        return None
    whole = replaced(plan, path, put)
    return whole if within_bounds(whole) else None


def stands_as_move(thing):
    """Whether thing is (path, rule, back), of a rule that is there, back only where that may be."""
    if not isinstance(thing, tuple) or len(thing) != 3 or not isinstance(thing[0], tuple):
        return False
    path, rule, back = thing
    if not is_number(rule) or not is_number(back) or not 0 <= rule < len(RULES):
        return False
    return back == 0 or (back == 1 and rule != ONE_WAY)


def form_at(plan, path):
    """The form to which the path, a tuple of whatever, leads; None where there is none."""
    for step in path:
        within = plans_within(plan)
        if not is_number(step) or not 0 <= step < len(within):
            return None
        plan = within[step]
    return plan


def replaced(plan, path, put):
    """The plan with put in the place of the form at the path."""
    if path == ():
        return put
    at = len(plan) - len(plans_within(plan)) + path[0]
    return (*plan[:at], replaced(plan[at], path[1:], put), *plan[at + 1:])


def within_bounds(plan):
    """Whether the plan has not too many forms, not too deep, none of too many names."""
    forms = forms_within(plan, plans_within)
    if len(forms) > MOST_PLANS or depth_within(plan, plans_within) > MOST_DEEP_PLAN:
        return False
    return all([len(names_in(form)) <= MOST_NAMES for form in forms])


def put_otherwise(form, rule, back):
    """What the rule puts in the form's place; None where the form isn't of that side, or the condition doesn't hold."""
    side, other_side = RULES[rule][::-1] if back == 1 else RULES[rule]
    found = {}
    if not is_of_side(form, side, found):
        return None
    fill_in_names(rule, found)
    return filled(other_side, found) if condition_holds(rule, found) else None


def is_of_side(thing, side, found):
    """Whether thing is as the side tells; what the letters stand for is put into found."""
    if isinstance(side, str):
        return found.setdefault(side, thing) == thing
    if thing[0] != side[0]:
        return False
    return all([is_of_side(part, inner, found) for part, inner in zip(thing[1:], side[1:])])


def filled(side, found):
    """The side with what its letters stand for."""
    if isinstance(side, str):
        return found[side]
    return (side[0], *[filled(inner, found) for inner in side[1:]])


def fill_in_names(rule, found):
    """Puts into found the tuples of names that stand on the other side only."""
    if rule in SHARED_OUT:
        if "N" not in found:
            found["N"] = all_names(found["N&p"], found["N&q"])
        for letter in ("p", "q"):
            found.setdefault("N&" + letter, shared_names(found["N"], names_in(found[letter])))
    if rule == ALL_NAMES:
        found.setdefault("N", names_in(found["p"]))


def shared_names(names, others):
    """Those of the names that are among the others."""
    return tuple([name for name in names if name in others])


def condition_holds(rule, found):
    """Whether the rule may be done with what its letters stand for."""
    names = {letter: names_in(found[letter]) for letter in ("p", "q", "r") if letter in found}
    if rule in ALIKE:
        return all([names[letter] == names[ALIKE[rule][0]] for letter in ALIKE[rule]])
    if rule in NAMED:
        return all([found["x"] in names[letter] and found["y"] in names[letter] for letter in NAMED[rule]])
    if rule == NAMES_KEPT:
        return found["x"] in found["N"] and found["y"] in found["N"]
    if rule == ALL_NAMES:
        return found["N"] == names["p"]
    if rule in SHARED_OUT:
        fit = all([found["N&" + letter] == shared_names(found["N"], names[letter]) for letter in ("p", "q")])
        shared = shared_names(names["p"], names["q"])
        return fit and (rule != SHARED_KEPT or shared_names(shared, found["N"]) == shared)
    return True
