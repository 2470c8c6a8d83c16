"""Plans: patterns, and deeds on what plans mean; their names and their faults."""

from markpieces.judge import judged
from markpieces.naming import all_names
from markpieces.patterns import MOST_NAMES, names_of

MOST_PLANS = 12
MOST_DEEP_PLAN = 6


def plans_within(plan):
    """A tuple of the plans that stand right within this one."""
    kind = plan[0]
    if kind == "pattern":
        return ()
    if kind == "only":
        return (plan[2],)
    if kind == "same":
        return (plan[3],)
    return plan[1:]


def names_in(plan):
    """A tuple of the names of a sound plan, rising."""
    kind = plan[0]
    if kind == "pattern":
        return names_of(plan[1])
    if kind == "only":
        return plan[1]
    within = [names_in(part) for part in plans_within(plan)]
    if kind in ("join", "either"):
        return all_names(within[0], within[1])
    return within[0]


def fault_of(plan):
    """None, or (path, why): the first fault, the parts of a form ahead of itself."""
    for k, part in enumerate(plans_within(plan)):
        fault = fault_of(part)
        if fault is not None:
            path, why = fault
            return ((k, *path), why)
    why = own_fault(plan)
    return None if why is None else ((), why)


def own_fault(plan):
    """Why the outermost form is at fault, where its parts are sound; None where it isn't."""
    kind = plan[0]
    if kind == "pattern":
        word = judged(plan[1])[0]
        return None if word == "sound" else word
    within = [names_in(part) for part in plans_within(plan)]
    if kind in ("join", "either"):
        return "names" if len(all_names(within[0], within[1])) > MOST_NAMES else None
    if kind == "without":
        return "unlike" if within[0] != within[1] else None
    asked = plan[1] if kind == "only" else plan[1:3]
    return "lacking" if any([name not in within[0] for name in asked]) else None
