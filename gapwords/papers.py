"""Papers: rooms that show that a system has no answer, and their check."""

from gapwords.nets import net_of
from gapwords.rooms import first_room, is_ended
from gapwords.steps import exits_of


def leads_within(room, standing, leading):
    """Whether the room isn't ended, and each room to which one of its steps leads stands there."""
    return not is_ended(room) and all([behind in standing for step, behind in leading(room)])


def is_closed(starts, paper, leading):
    """Whether the starts stand in the paper, no ended room, and with each room all to which its steps lead."""
    standing = dict([(room, True) for room in paper])
    if not all([room in standing for room in starts]):
        return False
    return all([leads_within(room, standing, leading) for room in standing])


def lets_by(system, paper):
    """Whether a tuple of rooms shows that the system has no answer."""
    return is_closed((first_room(system),), paper, exits_of)


def rooms_unended(net):
    """The rooms of a net where none of them is ended, else None."""
    if any([is_ended(room) for room in net[0]]):
        return None
    return net[0]


def paper_of(system, most=500):
    """The rooms of the system's net where none is ended, else None; refused as net_of."""
    return rooms_unended(net_of(system, most))
