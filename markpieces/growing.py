"""Making a machine: its states found one from another, all put in order."""


def grown(names, firsts, look):
    """The machine of all that is come to from the firsts, which are its starts.

    A state is told by a key. look(key) tells (stand, whether it is an end, steps, reads), steps a
    list of (marks, key) and reads one of (signs, key).
    """
    keys = list(firsts)
    numbers = {key: number for number, key in enumerate(keys)}
    starts = list(range(len(keys)))
    stands = []
    ends = []
    steps = []
    reads = []
    while len(stands) < len(keys):
        number = len(stands)
        stand, is_end, onward, reading = look(keys[number])
        stands.append(stand)
        if is_end:
            ends.append(number)
        for marks, key in onward:
            steps.append((number, marks, number_of(key, keys, numbers)))
        for signs, key in reading:
            reads.append((number, signs, number_of(key, keys, numbers)))
    return in_shape(names, stands, starts, ends, steps, reads)


def number_of(key, keys, numbers):
    """The number of the state of this key, which is a new one where it wasn't met so far."""
    if key not in numbers:
        numbers[key] = len(keys)
        keys.append(key)
    return numbers[key]


def in_shape(names, stands, starts, ends, steps, reads):
    """The machine of these, whatever their order; a machine without states gets one that does nothing."""
    states = tuple(stands) if stands else ((0,) * len(names),)
    moves = (tuple(sorted(set(steps))), tuple(sorted(set(reads))))
    return (tuple(names), states, tuple(sorted(starts)), tuple(sorted(ends)), *moves)
