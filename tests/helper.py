"""What several test files share: the refusal that comes, things of other kinds, rows of letters, dealt systems, and
answers found by trying all words."""

import functools
import itertools
import os.path
import re

from gapwords import errors

ALL_TEN = (
    errors.NoSystem, errors.NoText, errors.NoName, errors.Twice, errors.NoStep,
    errors.NoAnswer, errors.NoFit, errors.Thrice, errors.TooGreat, errors.NoWay,
)
FIELDS = {
    errors.Thrice: ("unknown", "equation", "side", "place"),
    errors.TooGreat: ("many", "most"),
    errors.NoWay: ("at",),
}
# Both have answers; the net of the one is just as great as is taken where most is left out.
OF_500_ROOMS = (("ZAA", "bXBXY"),)
OF_501_ROOMS = (("ZZXY", "bB"), ("aYX", "AB"))
# The second tells how many a there are, up to two; the third turns round with each b; the last has all 27 kinds.
MACHINES = (
    ("a", ((0,),)),
    ("ab", ((1, 0), (2, 1), (2, 2))),
    ("ab", ((0, 1), (1, 0))),
    ("az", ((2, 1), (0, 0), (1, 2))),
    ("abcd", ((0, 1, 2, 0), (1, 1, 1, 1), (2, 0, 1, 2))),
    ("q", ((1,), (2,), (0,))),
    ("wxyz", ((0, 0, 0, 0),)),
    ("abc", ((1, 1, 0), (2, 0, 1), (0, 2, 1))),
)


class Sullen:
    """A thing that answers nothing that it is asked."""

    __hash__ = None

    def answer_nothing(self, *others):
        raise RuntimeError("asked")

    __eq__ = __lt__ = __le__ = __gt__ = __ge__ = answer_nothing
    __len__ = __iter__ = __getitem__ = __contains__ = answer_nothing
    __bool__ = __repr__ = __str__ = answer_nothing


def things_of_other_kinds():
    """Things that are neither texts nor tuples."""
    return [
        None, True, False, 0, 1, -1, 2, 10 ** 30, 1.5, float("nan"), 1j,
        b"", b"a=b", bytearray(b"ab"), [], ["a", "b"], [("a", "b")], [["a", "b"]], {}, {"a": "b"}, {("a", "b"): 1},
        set(), {"a", "b"}, frozenset({("a", "b")}), range(2), iter(("a", "b")), (side for side in "ab"),
        object(), Sullen(), len, str, tuple, Sullen, lambda: "ab", ValueError("ab"), Ellipsis, NotImplemented,
    ]


def refusal_of(asked, *handed):
    """The refusal that comes: its class and its fields; or None and what was told."""
    try:
        told = asked(*handed)
    except errors.GapError as refusal:
        of = [kind for kind in ALL_TEN if isinstance(refusal, kind)]
        if len(of) != 1 or not isinstance(refusal, ValueError):
            raise AssertionError("the refusal is not of one class alone") from refusal
        return (of[0],) + tuple(getattr(refusal, field) for field in FIELDS.get(of[0], ()))
    return (None, told)


def rows(letters, longest):
    """All texts of these letters up to a length."""
    for length in range(longest + 1):
        for row in itertools.product(letters, repeat=length):
            yield "".join(row)


def kinds_within(told):
    """The classes of which a told thing is made, itself and all within its tuples."""
    kinds = {type(told)}
    if isinstance(told, tuple):
        for part in told:
            kinds |= kinds_within(part)
    return kinds


def filled_by_search(side, names, words):
    """A side filled, told another way than the program does."""
    return re.sub("[A-Z]", lambda found: words[names.index(found.group())], side)


def is_answer(equations, names, words):
    """Whether words, one for each name, make the sides of all equations alike."""
    return all(filled_by_search(left, names, words) == filled_by_search(right, names, words)
               for left, right in equations)


def unknowns_of(system):
    """The unknowns of a system, each once, rising."""
    return "".join(sorted(set(re.findall("[A-Z]", str(system)))))


def fillings(names, signs, most):
    """All tuples of words of these signs, one for each name, of at most so many signs together, in order."""
    tuples = [()]
    for _ in names:
        tuples = [ahead + (word,) for ahead in tuples for word in rows(signs, most - len("".join(ahead)))]
    return sorted(tuples, key=lambda words: (len("".join(words)), words))


def answers_by_trying(system, signs, most):
    """All answers of a system with words of these signs, of at most so many signs together, in order."""
    names = unknowns_of(system)
    return tuple(words for words in fillings(names, signs, most) if is_answer(system, names, words))


class Dealer:
    """Deals whole numbers out of a row that is the same each time."""

    def __init__(self, start):
        self.state = start

    def below(self, bound):
        self.state = (self.state * 6364136223846793005 + 1442695040888963407) % 2 ** 64
        return (self.state >> 33) % bound

    def pick(self, row):
        return row[self.below(len(row))]

    def word(self, signs, longest):
        return "".join(self.pick(signs) for _ in range(self.below(longest + 1)))


def dealt_system(dealer, many, names, signs, longest):
    """A system of so many equations with sides up to a length; each unknown stands at most twice."""
    left = {name: 2 for name in names}
    sides = []
    for _ in range(2 * many):
        side = ""
        for _ in range(dealer.below(longest + 1)):
            letters = signs + "".join(name for name in names if left[name] > 0)
            letter = dealer.pick(letters) if letters else ""
            if letter in left:
                left[letter] -= 1
            side += letter
        sides.append(side)
    return tuple(zip(sides[::2], sides[1::2]))


def side_for(dealer, row, word_of, left):
    """A side which, filled, is this row of signs: dealt out of signs and of unknowns that are left."""
    side = ""
    while True:
        able = [name for name in sorted(left) if left[name] > 0 and row.startswith(word_of[name])]
        if able and dealer.below(3) > 0:
            name = dealer.pick(able)
            left[name] -= 1
            side += name
            row = row[len(word_of[name]):]
        elif row:
            side += row[0]
            row = row[1:]
        else:
            return side


def dealt_with_answer(dealer, many, names, signs, longest):
    """A system of so many equations, with words that are an answer of it."""
    word_of = {name: dealer.word(signs, longest) for name in names}
    left = {name: 2 for name in names}
    equations = []
    for _ in range(many):
        row = dealer.word(signs, longest) + "".join(word_of[dealer.pick(names)] for _ in range(dealer.below(3)))
        equations.append((side_for(dealer, row, word_of, left), side_for(dealer, row, word_of, left)))
    system = tuple(equations)
    return (system, tuple(word_of[name] for name in unknowns_of(system)))


def changed_words(words, signs):
    """The words with one sign of one of them put in, left out or exchanged."""
    for number, word in enumerate(words):
        others = [word[:place] + sign + word[place:] for place in range(len(word) + 1) for sign in signs]
        others += [word[:place] + word[place + 1:] for place in range(len(word))]
        others += [word[:place] + sign + word[place + 1:] for place in range(len(word)) for sign in signs
                   if sign != word[place]]
        for other in others:
            yield words[:number] + (other,) + words[number + 1:]


def stripped_by_prefix(equations):
    """Equations stripped, by Python's own common beginning of two texts."""
    told = []
    for left, right in equations:
        many = len(os.path.commonprefix([left, right]))
        if left[many:] or right[many:]:
            told.append((left[many:], right[many:]))
    return tuple(told)


def dead_by_search(room):
    """Whether a room is dead, by patterns."""
    both = [left + "=" + right for left, right in room[1]]
    return any(re.search(r"^[a-z].*=[a-z]|^=.*[a-z]|[a-z].*=$", row) for row in both)


def steps_by_search(room):
    """The steps of a room, by patterns."""
    if not room[1] or dead_by_search(room):
        return ()
    p, q = re.fullmatch(r"(.?).*=(.?).*", "=".join(room[1][0])).groups()
    if not p or not q:
        return (("none", p or q),)
    if p.isupper() and q.isupper():
        return (("none", p), ("none", q), ("over", p, q), ("over", q, p))
    unknown, sign = (p, q) if p.isupper() else (q, p)
    return (("none", unknown), ("sign", unknown, sign))


def behind_by_search(room, step):
    """The room behind a step, by a pattern."""
    instead = "" if step[0] == "none" else step[2] + step[1]
    names = "".join(name for name in room[0] if step[0] != "none" or name != step[1])
    return (names, stripped_by_prefix([[re.sub(step[1], instead, side) for side in sides] for sides in room[1]]))


def net_by_search(system):
    """The net of a system, told another way: each room's number is looked for in a list."""
    rooms, ways = [(unknowns_of(system), stripped_by_prefix(system))], []
    for room in rooms:
        row = []
        for step in steps_by_search(room):
            behind = behind_by_search(room, step)
            if behind not in rooms:
                rooms.append(behind)
            row.append((step, rooms.index(behind)))
        ways.append(tuple(row))
    return (tuple(rooms), tuple(ways))


def small_rooms(longest):
    """All rooms of one equation with sides of a, b, X and Y up to a length."""
    for left, right in itertools.product(list(rows("abXY", longest)), repeat=2):
        if max((left + right).count("X"), (left + right).count("Y")) < 3 and left[:1] != right[:1]:
            yield ("XY", ((left, right),))


def dealt_systems(start, turns):
    """Systems of many kinds: dealt ones, and such as have an answer; none to four names, one to three equations."""
    dealer = Dealer(start)
    for turn in range(turns):
        yield dealt_system(dealer, 1 + turn % 3, "KXYZ"[:turn % 5], "ab", 4)
        yield dealt_with_answer(dealer, 1 + turn % 3, "KXYZ"[:1 + turn % 4], "ab", 2)[0]


def systems_by_answer(start, turns, most):
    """The dealt systems of at most so many rooms: those with an ended room, and those without."""
    systems = {True: [], False: []}
    for system in dealt_systems(start, turns):
        if len(few_rooms(system, most)) <= most:
            systems[any(not room[1] for room in few_rooms(system, most))].append(system)
    return systems


def few_rooms(system, most):
    """The system's rooms, or most and one more of them."""
    found = [(unknowns_of(system), stripped_by_prefix(system))]
    for room in found:
        for step in steps_by_search(room):
            behind = behind_by_search(room, step)
            if behind not in found and len(found) <= most:
                found.append(behind)
    return found


def room_by_room(machine, room, word):
    """All rooms through which a word leads, each by a look at the pairs of signs and rooms."""
    passed = [room]
    for sign in word:
        passed.append(dict(zip(machine[0], machine[1][passed[-1]]))[sign])
    return passed


def kind_by_rooms(machine, word):
    """The kind of a word, told another way."""
    return tuple(room_by_room(machine, room, word)[-1] for room in range(len(machine[1])))


@functools.lru_cache(None)
def kinds_by_trying(machine):
    """The kinds with their least words, found by trying all words in order until a length brings no new kind."""
    found, length, before = {}, 0, -1
    while len(found) > before:
        before = len(found)
        for row in itertools.product(machine[0], repeat=length):
            word = "".join(row)
            found.setdefault(kind_by_rooms(machine, word), word)
        length += 1
    return tuple(found.items())


def fits_by_rooms(machine, goods, words):
    """Whether words fit, told another way."""
    return all(set(word) <= set(machine[0]) and room_by_room(machine, 0, word)[-1] in good
               for good, word in zip(goods, words))


def begins_by_product(system, machine, goods):
    """The begins, by Python's own product."""
    kinds = [[kind for kind, word in kinds_by_trying(machine) if kind[0] in good] for good in goods]
    return tuple((unknowns_of(system), stripped_by_prefix(system), row) for row in itertools.product(*kinds))


def pairs_by_search(machine, room):
    """The pairs of a fitted room, by trying each kind for the step's unknown."""
    names, equations, kinds = room
    words = dict(kinds_by_trying(machine))
    pairs = []
    for step in steps_by_search((names, equations)):
        kind_by_name = dict(zip(names, kinds))
        if step[0] == "none":
            if kind_by_name.pop(step[1]) == tuple(range(len(machine[1]))):
                pairs.append((step, tuple(kind_by_name[name] for name in names if name in kind_by_name)))
            continue
        head = step[2] if step[0] == "sign" else words[kind_by_name[step[2]]]
        for kind, word in words.items():
            if kind_by_rooms(machine, head + word) == kinds[names.index(step[1])]:
                pairs.append((step, tuple((kind_by_name | {step[1]: kind})[name] for name in names)))
    return tuple(pairs)


def fitted_net_by_search(system, machine, goods, most):
    """The fitted net, told another way; or None where there are more than most rooms."""
    rooms = list(begins_by_product(system, machine, goods))
    many, ways = len(rooms), []
    numbers = {room: number for number, room in enumerate(rooms)}
    for room in rooms:
        row = []
        for step, kinds in pairs_by_search(machine, room):
            behind = behind_by_search(room[:2], step) + (kinds,)
            if behind not in numbers:
                numbers[behind] = len(rooms)
                rooms.append(behind)
            row.append((step, numbers[behind]))
        ways.append(tuple(row))
        if len(rooms) > most:
            return None
    return (tuple(rooms), tuple(ways), many)


def fitted_asked(start, turns):
    """Dealt triples (system, machine, goods), the machine having all the system's signs."""
    dealer = Dealer(start)
    able = [machine for machine in MACHINES if set("ab") <= set(machine[0])]
    for turn, system in enumerate(dealt_systems(start, turns)):
        machine = able[turn % len(able)]
        many = len(machine[1])
        goods = tuple(tuple(room for room in range(many) if dealer.below(8) < 5) for _ in unknowns_of(system))
        if len(goods) < 4 and (len(goods) < 3 or machine != MACHINES[7]):
            yield (system, machine, goods)
