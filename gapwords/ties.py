"""Systems tied by lengths: which places of the words are alike, and which are a sign."""

from gapwords.systems import is_sign, names_of


def laid(side, length_of):
    """A list of what stands in the side: a sign as itself, each place of an unknown as (unknown, place)."""
    spots = []
    for letter in side:
        if is_sign(letter):
            spots.append(letter)
        else:
            spots.extend([(letter, place) for place in range(length_of[letter])])
    return spots


def head_of(heads, spot):
    """The spot that stands for all with which a spot is tied."""
    here = spot
    while here in heads:
        here = heads[here]
    return here


def tie(heads, one, other):
    """Tie two spots; told is whether no unlike signs come to be tied."""
    first = head_of(heads, one)
    second = head_of(heads, other)
    if first == second:
        return True
    if not isinstance(first, str):
        heads[first] = second
    elif not isinstance(second, str):
        # A sign has to stay the head, so that it is seen from all places that are tied with it.
        heads[second] = first
    else:
        return False
    return True


def tie_sides(heads, one, other):
    """Tie what stands over against one another; told is whether the sides are alike in length and in signs."""
    if len(one) != len(other):
        return False
    for here, there in zip(one, other):
        if not tie(heads, here, there):
            return False
    return True


def shown(heads, numbers, spot):
    """The sign with which a place is tied, else its number; one that comes first gets the next number."""
    head = head_of(heads, spot)
    if isinstance(head, str):
        return head
    if head not in numbers:
        numbers[head] = len(numbers)
    return numbers[head]


def tied(system, lengths):
    """For each name a tuple with, for each of its places, its sign or its number; None where there is no answer."""
    length_of = dict(zip(names_of(system), lengths))
    heads = {}
    for left, right in system:
        if not tie_sides(heads, laid(left, length_of), laid(right, length_of)):
            return None
    numbers = {}
    told = []
    for name in length_of:
        told.append(tuple([shown(heads, numbers, spot) for spot in laid(name, length_of)]))
    return tuple(told)
