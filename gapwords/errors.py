"""The refusals: one class for each, all of them under GapError."""


class GapError(ValueError):
    """Any refusal."""


class NoSystem(GapError):
    """What was handed in is no tuple of one to six tuples of two sides."""


class NoText(GapError):
    """What was to be read is no text, or is not written as asked."""


class NoName(GapError):
    """A name that is no unknown, or does not stand in the system."""


class Twice(GapError):
    """A new name stands in the system already."""


class NoStep(GapError):
    """A step that is none of the room's."""


class NoAnswer(GapError):
    """Words that are no answer of the system."""


class NoFit(GapError):
    """A sign that the machine does not have."""


class Thrice(GapError):
    """An unknown stands a third time, first at this place."""

    def __init__(self, unknown, equation, side, place):
        GapError.__init__(self, f"{unknown} stands a third time: equation {equation}, side {side}, place {place}")
        self.unknown = unknown
        self.equation = equation
        self.side = side
        self.place = place


class TooGreat(GapError):
    """There are more than are taken."""

    def __init__(self, many, most):
        GapError.__init__(self, f"there are {many}, and at most {most} are taken")
        self.many = many
        self.most = most


class NoWay(GapError):
    """The steps do not lead on, or do not end, at this number."""

    def __init__(self, at):
        GapError.__init__(self, f"the way breaks off at step {at}")
        self.at = at
