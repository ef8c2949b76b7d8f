"""The way of an answer through the rooms, and ways led back to answers."""

from gapwords.answers import holds
from gapwords.errors import NoAnswer, NoWay
from gapwords.rooms import first_room, is_ended
from gapwords.steps import led_along, onward, room_behind, steps_of
from gapwords.systems import is_word, names_of


def first_onward(room, words):
    """The first of the room's steps by which an answer to it goes onward."""
    return [step for step in steps_of(room) if onward(room, step, words) is not None][0]


def way_of(system, words):
    """(steps, rest) of an answer of the system; refused with NoAnswer where the words are none."""
    if len(words) != len(names_of(system)) or not holds(system, words):
        raise NoAnswer("the words are no answer of the system")
    room = first_room(system)
    rest = words
    steps = []
    while not is_ended(room):
        step = first_onward(room, rest)
        steps.append(step)
        rest = onward(room, step, rest)
        room = room_behind(room, step)
    return (tuple(steps), rest)


def is_filling(thing, names):
    """Whether a thing is a tuple of words, one for each of the names."""
    if not isinstance(thing, tuple) or len(thing) != len(names):
        return False
    return all([isinstance(word, str) and is_word(word) for word in thing])


def led_back(system, steps, rest):
    """The answer of the system to which steps and a rest lead back; refused with NoWay."""
    room = first_room(system)
    passed = []
    for at, step in enumerate(steps):
        if step not in steps_of(room):
            raise NoWay(at)
        passed.append((room, step))
        room = room_behind(room, step)
    if not is_ended(room) or not is_filling(rest, room[0]):
        raise NoWay(len(steps))
    return led_along(passed, rest)
