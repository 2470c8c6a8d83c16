"""Signs, texts and names."""

SIGNS = " abcdefghijklmnopqrstuvwxyz"
LONG = 200
LETTERS = "abcdefghijklmnopqrstuvwxyz"
NAME_LONG = 8


def all_among(text, signs):
    """Whether all that text is made of is among signs."""
    return all([one in signs for one in text])


def is_text(thing):
    """Whether thing, whatever it is, is a text of at most LONG signs."""
    return isinstance(thing, str) and len(thing) <= LONG and all_among(thing, SIGNS)


def is_name(thing):
    """Whether thing, whatever it is, is a name: 1 to 8 small letters."""
    return isinstance(thing, str) and 1 <= len(thing) <= NAME_LONG and all_among(thing, LETTERS)
