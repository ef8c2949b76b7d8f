"""Rooms: names and equations without what both sides begin with; which of them are ended or dead."""

from gapwords.systems import is_sign, names_of


def without_beginning(left, right):
    """The equation of these sides without what both begin with."""
    alike = 0
    while alike < min(len(left), len(right)) and left[alike] == right[alike]:
        alike = alike + 1
    return (left[alike:], right[alike:])


def stripped(equations):
    """The equations without what both sides begin with, those left without letters left out."""
    rests = [without_beginning(left, right) for left, right in equations]
    return tuple([rest for rest in rests if rest != ("", "")])


def first_room(system):
    """The room of a system: its names and its equations, stripped."""
    return (names_of(system), stripped(system))


def is_ended(room):
    """Whether the room has no equations, so that each filling is an answer to it."""
    return len(room[1]) == 0


def has_sign(side):
    """Whether a sign stands in the side."""
    return any([is_sign(letter) for letter in side])


def is_against(left, right):
    """Whether the beginnings of these sides, stripped, or an empty side, shut out every answer."""
    if left == "" or right == "":
        return has_sign(left + right)
    return is_sign(left[0]) and is_sign(right[0])


def is_dead(room):
    """Whether an equation of the room shows by its beginning, or by an empty side, that there is no answer."""
    return any([is_against(left, right) for left, right in room[1]])
