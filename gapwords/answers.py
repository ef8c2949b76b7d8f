"""Sides filled with words, and which fillings are answers."""

from gapwords.systems import names_of


def filled(side, names, words):
    """The side with each unknown's word in its places; the names may come in any order."""
    word_of = dict(zip(names, words))
    return "".join([word_of.get(letter, letter) for letter in side])


def holds(system, words):
    """Whether a filling of the system's names makes both sides of each equation alike."""
    names = names_of(system)
    return all([filled(left, names, words) == filled(right, names, words) for left, right in system])
