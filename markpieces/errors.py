"""The refusals, each with what it was made with as fields."""


class PieceError(ValueError):
    """Any refusal but NoName."""


class Unread(PieceError):
    """A text that is no pattern's text, from this place on."""

    def __init__(self, place):
        super().__init__(f"no pattern's text goes on so at place {place}")
        self.place = place


class Unfit(PieceError):
    """A pattern that is beyond a bound: "forms", "deep" or "names"."""

    def __init__(self, why):
        super().__init__(f"the pattern is beyond its bound of {why}")
        self.why = why


class TooMany(PieceError):
    """More names together than a table can have."""

    def __init__(self, count):
        super().__init__(f"{count} names together are too many")
        self.count = count


class Unlike(PieceError):
    """Names that just one of two things has."""

    def __init__(self, names):
        super().__init__(f"just one of them has these names: {names!r}")
        self.names = names


class Unsound(PieceError):
    """A plan with a fault at this path."""

    def __init__(self, path, why):
        super().__init__(f"the plan has a fault at {path!r}: {why}")
        self.path = path
        self.why = why


class NoMove(PieceError):
    """A move that can't be done."""

    def __init__(self):
        super().__init__("no such move can be done there")


class Outside(PieceError):
    """An edit that goes beyond the text."""

    def __init__(self, at, cut):
        super().__init__(f"{cut} signs from place {at} on are not all in the text")
        self.at = at
        self.cut = cut


class TooLong(PieceError):
    """A text that would have this length."""

    def __init__(self, length):
        super().__init__(f"the text would have {length} signs")
        self.length = length


class Foreign(PieceError):
    """A text with something at this place that is no sign."""

    def __init__(self, place):
        super().__init__(f"at place {place} stands no sign")
        self.place = place


class NothingBack(PieceError):
    """No edit stands that could be undone."""

    def __init__(self):
        super().__init__("no edit stands that could be undone")


class Busy(PieceError):
    """An object that is asked for a change while it is at one."""

    def __init__(self):
        super().__init__("it is busy")


class NoName(LookupError):
    """A name that isn't there."""

    def __init__(self, name):
        super().__init__(f"no such name is there: {name!r}")
        self.name = name
