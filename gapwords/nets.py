"""The net of the rooms that can be come to, how far each is from an ended one, and one answer."""

from gapwords.errors import TooGreat
from gapwords.rooms import first_room, is_ended
from gapwords.steps import exits_of, led_along


def refuse_rooms(many, most):
    """Refuse more than most rooms; the search stops at the first above, so that more are never counted."""
    if many > most:
        raise TooGreat(most + 1, most)


def explored(starts, leading, most):
    """(rooms, ways) of all that can be come to from the starts; leading tells of a room its (step, room behind)."""
    rooms = list(starts)
    numbers = dict([(room, number) for number, room in enumerate(starts)])
    refuse_rooms(len(rooms), most)
    ways = []
    while len(ways) < len(rooms):
        here = rooms[len(ways)]
        row = []
        for step, room in leading(here):
            if room not in numbers:
                numbers[room] = len(rooms)
                rooms.append(room)
                refuse_rooms(len(rooms), most)
            row.append((step, numbers[room]))
        ways.append(tuple(row))
    return (tuple(rooms), tuple(ways))


def net_of(system, most=500):
    """(rooms, ways) of the system; refused with TooGreat where there are more than most rooms."""
    return explored((first_room(system),), exits_of, most)


def numbers_ahead(ways):
    """A list with, for each room, the numbers of the rooms of which a step leads to it."""
    ahead = [[] for row in ways]
    for number, row in enumerate(ways):
        for step, other in row:
            ahead[other].append(number)
    return ahead


def ranks(net):
    """For each room the least number of steps that lead from it to an ended room, or None."""
    told = [0 if is_ended(room) else None for room in net[0]]
    ahead = numbers_ahead(net[1])
    reached = [number for number, rank in enumerate(told) if rank == 0]
    done = 0
    while done < len(reached):
        here = reached[done]
        for number in ahead[here]:
            if told[number] is None:
                told[number] = told[here] + 1
                reached.append(number)
        done = done + 1
    return tuple(told)


def numbers_down(net, told, start):
    """A list of (number, step) that leads from a room to an ended one by falling ranks, the end's step None."""
    down = []
    number = start
    while told[number] > 0:
        nearer = [way for way in net[1][number] if told[way[1]] == told[number] - 1][0]
        down.append((number, nearer[0]))
        number = nearer[1]
    down.append((number, None))
    return down


def answer_down(net, told, start, words_at):
    """The words at the ended room to which falling ranks lead, led back to the start; words_at tells them."""
    down = [(net[0][number], step) for number, step in numbers_down(net, told, start)]
    return led_along(down[:-1], words_at(down[-1][0]))


def empty_words(room):
    """Words without signs, one for each name of the room."""
    return tuple(["" for name in room[0]])


def one_answer(system, most=500):
    """One answer of the system, or None where there is none; refused as net_of."""
    net = net_of(system, most)
    told = ranks(net)
    if told[0] is None:
        return None
    return answer_down(net, told, 0, empty_words)
