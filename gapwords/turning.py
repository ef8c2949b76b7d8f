"""Systems with their sides exchanged, read from their ends, or with another name of an unknown."""

from gapwords.errors import NoName, Twice
from gapwords.systems import is_unknown, names_of


def turned(system):
    """The system with the sides of each equation exchanged."""
    return tuple([(right, left) for left, right in system])


def from_end(side):
    """The side read from its end."""
    return "".join(reversed(side))


def mirrored(system):
    """The system with each side read from its end."""
    return tuple([(from_end(left), from_end(right)) for left, right in system])


def is_name(text):
    """Whether a text is one unknown."""
    return len(text) == 1 and is_unknown(text)


def renamed(system, old, new):
    """The system with new in each place of old; refused with NoName, else with Twice."""
    names = names_of(system)
    if not is_name(old) or old not in names:
        raise NoName("the old name is no unknown that stands in the system")
    if not is_name(new):
        raise NoName("the new name is no unknown")
    if new in names:
        raise Twice("the new name stands in the system already")
    return tuple([(left.replace(old, new), right.replace(old, new)) for left, right in system])
