"""Leading a plan to one whose onlys and sames stand as low as rules can bring them."""

from markpieces.plans import plans_within
from markpieces.rules import led_by

LOWERING = (5, 6, 7, 12, 14, 15, 16, 17)


def lowered(plan):
    """(other, moves): the moves, none of them back, lead to a plan in which no lowering rule can be done but back."""
    moves = []
    step = first_step(plan)
    while step is not None:
        move, plan = step
        moves.append(move)
        step = first_step(plan)
    return (plan, tuple(moves))


def first_step(plan):
    """(move, the plan behind it) of the first lowering move that can be done; None where none can."""
    for path in paths_in(plan):
        for rule in LOWERING:
            move = (path, rule, 0)
            other = led_by(plan, move)
            if other is not None:
                return (move, other)
    return None


def paths_in(plan):
    """A list of the paths to all forms of the plan, itself first."""
    paths = [()]
    for k, part in enumerate(plans_within(plan)):
        paths.extend([(k, *path) for path in paths_in(part)])
    return paths
