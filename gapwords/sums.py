"""How often each sign has to stand in the words of an answer, and where no words can do that."""

from gapwords.systems import names_of, signs_of


def surplus(equation, letter):
    """How often a letter stands in the left side less how often in the right one."""
    return equation[0].count(letter) - equation[1].count(letter)


def sums_of_one(equation, names, signs):
    """A tuple of (sign, coefficients, amount), one for each of the signs."""
    coefficients = tuple([surplus(equation, name) for name in names])
    return tuple([(sign, coefficients, -surplus(equation, sign)) for sign in signs])


def sums(system):
    """For each equation a tuple of (sign, coefficients, amount), one for each of the system's signs."""
    names = names_of(system)
    signs = signs_of(system)
    return tuple([sums_of_one(equation, names, signs) for equation in system])


def can_come(coefficients, amount):
    """Whether whole numbers from 0 on, each times its coefficient (-2 to 2), come to the amount together."""
    if amount == 0:
        return True
    # Coefficients against the amount's direction never help to get there, but odd ones among them make it odd.
    towards = [number for number in coefficients if number * amount > 0]
    odd = [number for number in coefficients if number % 2 == 1]
    return len(towards) > 0 and (amount % 2 == 0 or len(odd) > 0)


def lacking(system):
    """The first (equation, sign) whose sum no whole numbers from 0 on fulfil, or None."""
    for equation, row in enumerate(sums(system)):
        for sign, coefficients, amount in row:
            if not can_come(coefficients, amount):
                return (equation, sign)
    return None
