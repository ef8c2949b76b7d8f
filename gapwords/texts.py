"""Systems and tuples of words, written as texts and read from them."""

from gapwords.errors import NoText
from gapwords.systems import check, has_form, is_word


def show_system(system):
    """The text of a system, as in `aX=Xb; YcY=`."""
    return "; ".join([f"{left}={right}" for left, right in system])


def read_system(text):
    """The system of a text; refused with NoText, else as check refuses."""
    if not isinstance(text, str):
        raise NoText("a system is read of a text")
    # A piece with no `=`, or with two, comes out as no tuple of two, so the form tells of these as well.
    system = tuple([tuple(piece.split("=")) for piece in text.split("; ")])
    if not has_form(system):
        raise NoText("not written as one to six equations, as in aX=Xb; YcY=")
    check(system)
    return system


def show_words(names, words):
    """The text of a tuple of words, one for each of the names, as in `X=ab Y=`."""
    return " ".join([f"{name}={word}" for name, word in zip(names, words)])


def read_word(name, piece):
    """The word of a piece as `X=ab`, which has to be the name's."""
    head = name + "="
    word = piece[len(head):]
    if not piece.startswith(head) or not is_word(word):
        raise NoText(f"not written as {name}= and a word")
    return word


def read_words(names, text):
    """The tuple of words of a text, one for each of the names; refused with NoText."""
    if not isinstance(text, str):
        raise NoText("words are read of a text")
    # Cut at blanks, the text of no signs would be one piece, but it stands for no words.
    pieces = text.split(" ") if text != "" else []
    if len(pieces) != len(names):
        raise NoText("not written as one word for each name, as in X=ab Y=")
    return tuple([read_word(name, piece) for name, piece in zip(names, pieces)])
