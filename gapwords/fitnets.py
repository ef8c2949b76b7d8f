"""Nets of fitted rooms: one answer that fits, or a paper that there is none."""

from gapwords.fitted import begins, many_begins, pairs_of, refuse_other_signs
from gapwords.kinds import kinds_of
from gapwords.nets import answer_down, explored, ranks, refuse_rooms
from gapwords.papers import is_closed, rooms_unended
from gapwords.steps import room_behind


def fitted_exits(machine):
    """A function that tells of a fitted room a list of (step, fitted room to which it leads)."""
    # The machine's kinds are made once here and not with each room.
    every = kinds_of(machine)

    def exits(room):
        return [(step, room_behind(room[:2], step) + (kinds,)) for step, kinds in pairs_of(machine, every, room)]

    return exits


def fitted_net(system, machine, goods, most=500):
    """(rooms, ways, how many begins); refused with NoFit, else with TooGreat where there are more than most rooms."""
    refuse_other_signs(system, machine)
    refuse_rooms(many_begins(machine, goods), most)
    starts = begins(system, machine, goods)
    return explored(starts, fitted_exits(machine), most) + (len(starts),)


def fitted_answer(system, machine, goods, most=500):
    """One answer that fits, or None where there is none; refused as fitted_net."""
    net = fitted_net(system, machine, goods, most)
    told = ranks(net)
    reaching = [number for number in range(net[2]) if told[number] is not None]
    if len(reaching) == 0:
        return None
    start = min(reaching, key=lambda number: told[number])
    least = dict(kinds_of(machine))
    return answer_down(net, told, start, lambda room: tuple([least[kind] for kind in room[2]]))


def fitted_paper(system, machine, goods, most=500):
    """The rooms of the fitted net where none is ended, else None; refused as fitted_net."""
    return rooms_unended(fitted_net(system, machine, goods, most))


def fitted_lets_by(system, machine, goods, paper):
    """Whether a tuple of fitted rooms shows that no answer fits; refused with NoFit."""
    refuse_other_signs(system, machine)
    # No two begins are equal, so that a paper of fewer rooms lacks one, however many would have to be made.
    if many_begins(machine, goods) > len(paper):
        return False
    return is_closed(begins(system, machine, goods), paper, fitted_exits(machine))
