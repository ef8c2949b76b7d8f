"""Fillings that fit a machine, and rooms with a kind for each name."""

from gapwords.errors import NoFit
from gapwords.kinds import kind_of, kinds_of, together
from gapwords.machines import leads
from gapwords.rooms import first_room
from gapwords.steps import steps_of
from gapwords.systems import signs_of


def has_signs(machine, word):
    """Whether the word has the machine's signs alone."""
    return all([sign in machine[0] for sign in word])


def refuse_other_signs(system, machine):
    """Refuse a system with a sign that the machine does not have."""
    if not has_signs(machine, signs_of(system)):
        raise NoFit("the system has a sign that the machine does not have")


def word_fits(machine, good, word):
    """Whether the word has the machine's signs alone and leads from room 0 to a good room."""
    return has_signs(machine, word) and leads(machine, 0, word) in good


def fits(system, machine, goods, words):
    """Whether each word of a filling fits its name's goods; refused with NoFit."""
    refuse_other_signs(system, machine)
    return all([word_fits(machine, good, word) for good, word in zip(goods, words)])


def good_kinds(machine, goods):
    """A list with, for each name, a list of the kinds that lead from room 0 to one of its goods."""
    every = [kind for kind, word in kinds_of(machine)]
    return [[kind for kind in every if kind[0] in good] for good in goods]


def many_begins(machine, goods):
    """How many begins there are, told without making them."""
    many = 1
    for kinds in good_kinds(machine, goods):
        many = many * len(kinds)
    return many


def one_of_each(rows):
    """A list of all tuples with one of each row, the first row's changing last."""
    chosen = [()]
    for row in rows:
        longer = []
        for ahead in chosen:
            longer.extend([ahead + (one,) for one in row])
        chosen = longer
    return chosen


def begins(system, machine, goods):
    """All fitted rooms of the system's first room whose kinds lead to goods; refused with NoFit."""
    refuse_other_signs(system, machine)
    # Where the last goods are none, a great many kinds of the names ahead would be put together for nothing.
    if many_begins(machine, goods) == 0:
        return ()
    room = first_room(system)
    return tuple([room + (kinds,) for kinds in one_of_each(good_kinds(machine, goods))])


def kinds_behind(machine, every, room, step):
    """A list of the kinds behind with which a step of a fitted room goes; every tells the machine's kinds."""
    kinds = room[2]
    place = room[0].index(step[1])
    if step[0] == "none":
        return [kinds[:place] + kinds[place + 1:]] if kinds[place] == kind_of(machine, "") else []
    if step[0] == "sign":
        head = kind_of(machine, step[2])
    else:
        head = kinds[room[0].index(step[2])]
    rests = [kind for kind, word in every if together(head, kind) == kinds[place]]
    return [kinds[:place] + (rest,) + kinds[place + 1:] for rest in rests]


def pairs_of(machine, every, room):
    """A list of (step, kinds behind) of a fitted room; every tells the machine's kinds."""
    pairs = []
    for step in steps_of(room[:2]):
        pairs.extend([(step, kinds) for kinds in kinds_behind(machine, every, room, step)])
    return pairs


def fitted_steps(machine, room):
    """A tuple of (step, kinds behind) of a fitted room, step by step, then in the order of the machine's kinds."""
    return tuple(pairs_of(machine, kinds_of(machine), room))
