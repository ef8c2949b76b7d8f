"""Steps: what an unknown at a room's beginning may be, where that leads, and words led along."""

from gapwords.errors import NoStep
from gapwords.rooms import is_dead, is_ended, stripped
from gapwords.systems import is_sign


def steps_against(left, right):
    """The steps of an equation's sides, which are neither dead nor both empty."""
    if left == "" or right == "":
        return (("none", (left + right)[0]),)
    if is_sign(left[0]):
        return (("none", right[0]), ("sign", right[0], left[0]))
    if is_sign(right[0]):
        return (("none", left[0]), ("sign", left[0], right[0]))
    return (("none", left[0]), ("none", right[0]), ("over", left[0], right[0]), ("over", right[0], left[0]))


def steps_of(room):
    """The room's steps in their order; an ended and a dead room have none."""
    if is_ended(room) or is_dead(room):
        return ()
    first = room[1][0]
    return steps_against(first[0], first[1])


def room_behind(room, step):
    """The room to which a step leads that is one of the room's."""
    unknown = step[1]
    if step[0] == "none":
        names = room[0].replace(unknown, "")
        instead = ""
    else:
        names = room[0]
        instead = step[2] + unknown
    put = [(left.replace(unknown, instead), right.replace(unknown, instead)) for left, right in room[1]]
    return (names, stripped(put))


def stepped(room, step):
    """The room to which a step leads; refused with NoStep where it is none of the room's."""
    if step not in steps_of(room):
        raise NoStep("the step is none of the room's")
    return room_behind(room, step)


def exits_of(room):
    """A list of (step, room to which it leads), the room's steps in their order."""
    return [(step, room_behind(room, step)) for step in steps_of(room)]


def beginning(room, step, words):
    """What a step puts ahead of its unknown's word: its sign, or the other unknown's word."""
    if step[0] == "sign":
        return step[2]
    return words[room[0].index(step[2])]


def led(room, step, words):
    """Words of the room behind one of the room's steps, led to the room."""
    place = room[0].index(step[1])
    if step[0] == "none":
        return words[:place] + ("",) + words[place:]
    return words[:place] + (beginning(room, step, words) + words[place],) + words[place + 1:]


def onward(room, step, words):
    """The words of the room behind one of the room's steps that are led to these words, or None."""
    place = room[0].index(step[1])
    word = words[place]
    if step[0] == "none":
        return None if word != "" else words[:place] + words[place + 1:]
    head = beginning(room, step, words)
    if not word.startswith(head):
        return None
    return words[:place] + (word[len(head):],) + words[place + 1:]


def led_along(passed, words):
    """Words led back along a list of (room, step), in which each step leads to the next room."""
    here = words
    for room, step in reversed(passed):
        here = led(room, step, here)
    return here
