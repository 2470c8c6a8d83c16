"""The marks of a row at a place, and the told order of rows."""


def marks_at(row, names, place):
    """The marks of the row, of these names, at the place: a rising tuple."""
    marks = []
    for name, piece in zip(names, row):
        if piece is not None:
            begin, end = piece
            if begin == place:
                marks.append((name, 0))
            if end == place:
                marks.append((name, 1))
    return tuple(sorted(marks))


def in_order(rows, names):
    """A tuple of the rows, of these names, each once, in the told order."""
    unlike = {one: True for one in rows}
    return tuple(sorted(list(unlike), key=lambda row: rank(row, names)))


def rank(row, names):
    """What the told order goes by: the places that have marks, with these, in order.

    At the first place where two rows' marks are unlike, the one without marks comes to its
    next marks later, or not at all: the last entry stands behind every place.
    """
    places = [place for piece in row if piece is not None for place in piece]
    marked = [(0, place, marks_at(row, names, place)) for place in sorted(set(places))]
    return (*marked, (1,))


def row_by(marks_by_place, names):
    """The row, of these names, with these marks at the places from 0 on."""
    begins = {}
    pieces = {}
    for place, marks in enumerate(marks_by_place):
        for name, which in marks:
            if which == 0:
                begins[name] = place
            else:
                pieces[name] = (begins[name], place)
    return tuple([pieces.get(name) for name in names])
