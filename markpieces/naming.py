"""Names of two things put together, and the refusals that come of them."""

from markpieces.errors import NoName, TooMany, Unlike
from markpieces.patterns import MOST_NAMES


def all_names(names, others):
    """A tuple of the names of both, rising, each once."""
    return tuple(sorted(set(names) | set(others)))


def names_of_both(names, others):
    """The same, of a table or a machine: TooMany where they would be more than it can have."""
    both = all_names(names, others)
    if len(both) > MOST_NAMES:
        raise TooMany(len(both))
    return both


def refuse_unlike(names, others):
    """Raises Unlike where just one of the two has some name."""
    odd = sorted(set(names) ^ set(others))
    if odd:
        raise Unlike(tuple(odd))


def refuse_lacking(wanted, names):
    """Raises NoName for the first of the wanted that is none of the names."""
    for name in wanted:
        if name not in names:
            raise NoName(name)
