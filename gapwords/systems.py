"""Systems of equations: what they are, their names and their signs."""

from gapwords.errors import NoSystem, Thrice, TooGreat

MOST_EQUATIONS = 6
MOST_LETTERS = 40
MOST_UNKNOWNS = 6


def is_sign(letter):
    """Whether a text of one letter is a sign."""
    return "a" <= letter <= "z"


def is_unknown(letter):
    """Whether a text of one letter is an unknown."""
    return "A" <= letter <= "Z"


def is_word(text):
    """Whether a text is of signs alone."""
    return all([is_sign(letter) for letter in text])


def is_side(thing):
    """Whether anything is a text of signs and unknowns."""
    return isinstance(thing, str) and all([is_sign(letter) or is_unknown(letter) for letter in thing])


def is_equation(thing):
    """Whether anything is a tuple of two sides."""
    return isinstance(thing, tuple) and len(thing) == 2 and all([is_side(side) for side in thing])


def has_form(thing):
    """Whether anything is a tuple of one to six equations, however often its unknowns stand."""
    if not isinstance(thing, tuple) or not 1 <= len(thing) <= MOST_EQUATIONS:
        return False
    return all([is_equation(equation) for equation in thing])


def letters_of(system):
    """All letters of the system, each as often as it stands."""
    return "".join([left + right for left, right in system])


def rising(letters):
    """The letters as a text, each once."""
    return "".join(sorted(set(letters)))


def names_of(system):
    """The unknowns of the system, each once, rising."""
    return rising([letter for letter in letters_of(system) if is_unknown(letter)])


def signs_of(system):
    """The signs that stand in the system, each once, rising."""
    return rising([letter for letter in letters_of(system) if is_sign(letter)])


def spots_of(system):
    """A list of (letter, equation, side, place), in the order in which they are read."""
    spots = []
    for equation, sides in enumerate(system):
        for side, letters in enumerate(sides):
            for place, letter in enumerate(letters):
                spots.append((letter, equation, side, place))
    return spots


def refuse_thrice(system):
    """Refuse a system in which an unknown stands a third time."""
    times = {}
    for letter, equation, side, place in spots_of(system):
        times[letter] = times.get(letter, 0) + 1
        if is_unknown(letter) and times[letter] > 2:
            raise Thrice(letter, equation, side, place)


def refuse_above(many, most):
    """Refuse a number that is above the most."""
    if many > most:
        raise TooGreat(many, most)


def check(thing):
    """Refuse anything that is no system, with the refusal that is due first; else None."""
    if not has_form(thing):
        raise NoSystem("no tuple of one to six tuples of two sides")
    refuse_thrice(thing)
    refuse_above(len(letters_of(thing)), MOST_LETTERS)
    refuse_above(len(names_of(thing)), MOST_UNKNOWNS)
