"""How many tuples of words there are, and all answers to a length."""

from gapwords.nets import net_of
from gapwords.systems import names_of, refuse_above
from gapwords.ties import tied

MOST_TUPLES = 5000
MOST_ROOMS = 500


def tuples_to(k, s, m):
    """How many tuples of k words of s signs have at most m signs together."""
    many = 0
    cuts = 1
    texts = 1
    for total in range(m + 1):
        many = many + cuts * texts
        # The ways to cut a number into k parts grow by this share, without remainder, from one number to the next.
        cuts = cuts * (total + k) // (total + 1)
        texts = texts * s
    return many


def with_one_more(rows, most):
    """Each of the rows with one more length behind, as far as all lengths together are at most most."""
    longer = []
    for row in rows:
        longer.extend([row + (length,) for length in range(most - sum(row) + 1)])
    return longer


def all_lengths(many, most):
    """A list of all tuples of so many lengths that are at most most together."""
    rows = [()]
    for turn in range(many):
        rows = with_one_more(rows, most)
    return rows


def texts_of(signs, length):
    """A list of all texts of these signs of a length."""
    texts = [""]
    for turn in range(length):
        longer = []
        for text in texts:
            longer.extend([text + sign for sign in signs])
        texts = longer
    return texts


def word_for(row, chosen):
    """The word of a row of signs and numbers, each number being the place of its sign in the chosen text."""
    return "".join([spot if isinstance(spot, str) else chosen[spot] for spot in row])


def words_for(pattern, signs):
    """A list of all words of these signs alone that come of putting signs for the pattern's numbers."""
    spots = []
    for row in pattern:
        spots.extend(row)
    if any([isinstance(spot, str) and spot not in signs for spot in spots]):
        return []
    many = len(set([spot for spot in spots if not isinstance(spot, str)]))
    return [tuple([word_for(row, chosen) for row in pattern]) for chosen in texts_of(signs, many)]


def place_in_order(words):
    """What tells a tuple of words' place among others: all its signs together first."""
    return (len("".join(words)), words)


def answers_to(system, signs, most):
    """All answers of these signs alone with at most most signs together, in order; refused with TooGreat."""
    many = len(names_of(system))
    refuse_above(tuples_to(many, len(signs), most), MOST_TUPLES)
    # The answers come without the net; it is made for its refusal alone.
    net_of(system, MOST_ROOMS)
    answers = []
    for lengths in all_lengths(many, most):
        pattern = tied(system, lengths)
        if pattern is not None:
            answers.extend(words_for(pattern, signs))
    return tuple(sorted(answers, key=place_in_order))


def least_to(system, signs, most):
    """The first of the answers to most, or None; refused as answers_to."""
    answers = answers_to(system, signs, most)
    return answers[0] if len(answers) > 0 else None


def lengths_to(system, signs, most):
    """The lengths of the answers to most, rising, each once; refused as answers_to."""
    lengths = [tuple([len(word) for word in words]) for words in answers_to(system, signs, most)]
    return tuple(sorted(set(lengths)))
