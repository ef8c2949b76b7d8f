"""What several test files share: the refusal that comes, things of other kinds, and rows of letters."""

import itertools

from gapwords import errors

ALL_TEN = (
    errors.NoSystem, errors.NoText, errors.NoName, errors.Twice, errors.NoStep,
    errors.NoAnswer, errors.NoFit, errors.Thrice, errors.TooGreat, errors.NoWay,
)
FIELDS = {
    errors.Thrice: ("unknown", "equation", "side", "place"),
    errors.TooGreat: ("many", "most"),
}


class Sullen:
    """A thing that answers nothing that it is asked."""

    __hash__ = None

    def answer_nothing(self, *others):
        raise RuntimeError("asked")

    __eq__ = __lt__ = __le__ = __gt__ = __ge__ = answer_nothing
    __len__ = __iter__ = __getitem__ = __contains__ = answer_nothing
    __bool__ = __repr__ = __str__ = answer_nothing


def things_of_other_kinds():
    """Things that are neither texts nor tuples."""
    return [
        None, True, False, 0, 1, -1, 2, 10 ** 30, 1.5, float("nan"), 1j,
        b"", b"a=b", bytearray(b"ab"), [], ["a", "b"], [("a", "b")], [["a", "b"]], {}, {"a": "b"}, {("a", "b"): 1},
        set(), {"a", "b"}, frozenset({("a", "b")}), range(2), iter(("a", "b")), (side for side in "ab"),
        object(), Sullen(), len, str, tuple, Sullen, lambda: "ab", ValueError("ab"), Ellipsis, NotImplemented,
    ]


def refusal_of(asked, *handed):
    """The refusal that comes: its class and its fields; or None and what was told."""
    try:
        told = asked(*handed)
    except errors.GapError as refusal:
        of = [kind for kind in ALL_TEN if isinstance(refusal, kind)]
        if len(of) != 1 or not isinstance(refusal, ValueError):
            raise AssertionError("the refusal is not of one class alone") from refusal
        return (of[0],) + tuple(getattr(refusal, field) for field in FIELDS.get(of[0], ()))
    return (None, told)


def rows(letters, longest):
    """All texts of these letters up to a length."""
    for length in range(longest + 1):
        for row in itertools.product(letters, repeat=length):
            yield "".join(row)
