"""Kinds of words: where they lead from each room of a machine."""

from gapwords.machines import leads


def kind_of(machine, word):
    """For each room the number of the room to which the word leads; refused as leads."""
    return tuple([leads(machine, room, word) for room in range(len(machine[1]))])


def together(one, other):
    """The kind of a word of the one kind with a word of the other behind it."""
    return tuple([other[number] for number in one])


def kinds_of(machine):
    """A tuple of (kind, least word of it), in the order of these words."""
    by_sign = [(sign, kind_of(machine, sign)) for sign in machine[0]]
    told = [(kind_of(machine, ""), "")]
    known = {told[0][0]: True}
    done = 0
    # A least word without its last sign is least of its kind, so longer ones are looked for behind least ones alone.
    while done < len(told):
        for sign, kind in by_sign:
            longer = together(told[done][0], kind)
            if longer not in known:
                known[longer] = True
                told.append((longer, told[done][1] + sign))
        done = done + 1
    return tuple(told)
