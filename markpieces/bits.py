"""Sets of small numbers, each held as the bits of one number."""


def bits_of(numbers):
    """The number whose bits are these."""
    bits = 0
    for one in numbers:
        bits |= 1 << one
    return bits


def bits_in(bits):
    """A list of the bits of the number, rising."""
    found = []
    while bits > 0:
        # bits & -bits is the lowest bit alone: what is unset costs no step of its own.
        lowest = bits & -bits
        found.append(lowest.bit_length() - 1)
        bits ^= lowest
    return found
