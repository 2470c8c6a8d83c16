"""A search through things that lead to one another by marks and signs."""


def searched(first, goal, onward):
    """(all things met, turns, what): things that fewer turns lead to are looked at first.

    onward(thing) tells a list of (other thing, marks, sign). The search ends at the first thing
    of which goal(thing) tells what isn't None; turns are the (marks, sign) that led there. Where
    there is none both are None.
    """
    waiting = [first]
    came = {first: None}
    at = 0
    while at < len(waiting):
        here = waiting[at]
        what = goal(here)
        if what is not None:
            return waiting, turns_to(came, here), what
        for further, marks, sign in onward(here):
            if further not in came:
                came[further] = (here, marks, sign)
                waiting.append(further)
        at += 1
    return waiting, None, None


def turns_to(came, last):
    """A list of (marks, sign), in order, by which last was come to."""
    turns = []
    while came[last] is not None:
        last, marks, sign = came[last]
        turns.append((marks, sign))
    return turns[::-1]
