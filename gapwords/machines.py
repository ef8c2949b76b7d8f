"""Machines: rooms between which signs lead, and where words lead."""

from gapwords.errors import NoFit
from gapwords.systems import is_word

MOST_SIGNS = 4
MOST_MACHINE_ROOMS = 3


def are_signs(thing):
    """Whether anything is a text of one to four signs, rising."""
    if not isinstance(thing, str) or not 1 <= len(thing) <= MOST_SIGNS or not is_word(thing):
        return False
    return all([one < other for one, other in zip(thing, thing[1:])])


def is_number(thing, many):
    """Whether anything is a whole number from 0 on and below many."""
    return isinstance(thing, int) and not isinstance(thing, bool) and 0 <= thing < many


def is_row(thing, long, many):
    """Whether anything is a tuple, as long as told, of numbers of rooms, of which there are so many."""
    return isinstance(thing, tuple) and len(thing) == long and all([is_number(number, many) for number in thing])


def are_rooms(thing, long):
    """Whether anything is a tuple of one to three rows, each as long as told, of numbers of these rows."""
    if not isinstance(thing, tuple) or not 1 <= len(thing) <= MOST_MACHINE_ROOMS:
        return False
    return all([is_row(row, long, len(thing)) for row in thing])


def is_machine(thing):
    """Whether anything is a machine."""
    if not isinstance(thing, tuple) or len(thing) != 2 or not are_signs(thing[0]):
        return False
    return are_rooms(thing[1], len(thing[0]))


def leads(machine, room, word):
    """The number of the room to which a word leads; refused with NoFit where it has a sign not the machine's."""
    here = room
    for sign in word:
        if sign not in machine[0]:
            raise NoFit(f"the machine does not have the sign {sign}")
        here = machine[1][here][machine[0].index(sign)]
    return here
