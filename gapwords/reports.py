"""Reports: what is told of a system, as a text of lines."""

from gapwords.nets import net_of
from gapwords.papers import rooms_unended
from gapwords.sums import lacking
from gapwords.systems import names_of
from gapwords.tables import answers_to
from gapwords.texts import read_system, show_system, show_words

MOST_ROOMS = 500


def lines_of_none(system):
    """The lines of a system without an answer."""
    lack = lacking(system)
    if lack is None:
        return ["none"]
    equation = lack[0]
    sign = lack[1]
    return [f"none by {equation} {sign}"]


def lines_of_answers(names, answers):
    """The lines of a system that has an answer, with its answers to a length."""
    if len(answers) == 0:
        return ["longer"]
    least = len("".join(answers[0]))
    return ["= " + show_words(names, words) for words in answers] + [f"least {least}"]


def report(text, signs="ab", most=3):
    """The report of a system's text; refused as read_system, as net_of by 500 rooms, then as answers_to."""
    system = read_system(text)
    net = net_of(system, MOST_ROOMS)
    answers = answers_to(system, signs, most)
    many = len(net[0])
    lines = [show_system(system), f"rooms {many}"]
    if rooms_unended(net) is None:
        lines.extend(lines_of_answers(names_of(system), answers))
    else:
        lines.extend(lines_of_none(system))
    return "\n".join(lines)
