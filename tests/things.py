"""Things for the tests: some that are of no kind that is asked for, some values and sets, and second ways.

What is told here of sets and tellings is told by the words of the document alone, not by the program: slowly,
path by path, and by searching through plain values.
"""

import decimal
import fractions
import functools
import itertools
import re


class Grudging:
    """A thing whose every comparison fails."""

    __hash__ = None

    def refuse(self, other):
        raise RuntimeError("not to be compared")

    __eq__ = __ne__ = __lt__ = __le__ = __gt__ = __ge__ = refuse

    def __bool__(self):
        raise RuntimeError("not to be asked")


class Agreeing:
    """A thing that says it is the same as anything, and below and above it."""

    __hash__ = None

    def agree(self, other):
        return True

    __eq__ = __lt__ = __le__ = __gt__ = __ge__ = agree


def within_itself():
    ring = []
    ring.append(("list", (ring,)))
    return ring


def odd_things():
    """New things of many kinds, none of them a whole number, text, truth or tuple."""
    return [
        None, [], [1], ["list", ()], ["of", ()], [(1, 2)], [False], {}, {"a": 1}, set(), {"a"},
        frozenset(), b"", b"a", bytearray(b"a"), range(3), 1j, fractions.Fraction(2),
        decimal.Decimal(2), object(), int, str, tuple, len, odd_things, lambda: 1, iter(()),
        Ellipsis, NotImplemented, ValueError("a"), slice(1, 2), memoryview(b"a"),
        Grudging(), Agreeing(), within_itself(),
    ]


def raw(numbers=(), texts=("of", ()), truths=(), lists=None, records=None):
    return (numbers, texts, truths, lists, records)


NONE = raw()
FULL = (((None, None),), ("but", ()), (False, True), ((), "any"), ((), "any"))
NUMBERS = raw(((None, None),))
TEXTS = raw((), ("but", ()))
TRUTHS = raw(truths=(False, True))


def number(low, high):
    return raw(((low, high),))


def texts_of(*texts):
    return raw((), ("of", texts))


def texts_but(*texts):
    return raw((), ("but", texts))


def a_list(*values):
    return ("list", values)


def a_record(**fields):
    return ("record", tuple(sorted(fields.items())))


def lists(*fronts, more=NONE):
    return raw(lists=(fronts, more))


def records(*fields, more=NONE):
    return raw(records=(fields, more))


def has(some, value):
    """Whether a set has a value, by points 6 to 8; also asked of tuples that aren't in the one form."""
    if some == "any":
        return True
    numbers, (word, texts), truths, lists_part, records_part = some
    if isinstance(value, bool):
        return value in truths
    if isinstance(value, int):
        return any((low is None or low <= value) and (high is None or value <= high) for low, high in numbers)
    if isinstance(value, str):
        return (value in texts) if word == "of" else (value not in texts)
    if value[0] == "list":
        if lists_part is None:
            return False
        fronts, more = lists_part
        behind = len(value[1]) - len(fronts)
        return behind >= 0 and all(map(has, fronts + (more,) * behind, value[1]))
    if records_part is None:
        return False
    fields, more = records_part
    there = dict(value[1])
    told = {name: part for name, must, part in fields}
    if any(must and name not in there for name, must, part in fields):
        return False
    return all(has(told.get(name, more), part) for name, part in there.items())


LEAVES = (0, 1, 2, 3, -1, -2, 9, "", "a", "b", "ab", False, True)


@functools.cache
def some_values():
    """Values of all kinds, some of them within one another."""
    found = list(LEAVES) + [5, 7, -7, 10 ** 20, "z", "aa", "zzz"]
    inner = (0, 1, 5, "a", True, ("list", ()), ("record", ()), ("list", (0,)), ("record", (("a", 0),)))
    for length in range(4):
        found.extend(("list", values) for values in itertools.product(inner[:4 if length == 3 else 9], repeat=length))
    for values in itertools.product((None,) + inner[:5], repeat=3):
        found.append(("record", tuple((name, value) for name, value in zip("abx", values) if value is not None)))
    for value in inner[5:]:
        found.extend([("record", (("a", value),)), ("record", (("b", value),)), ("record", (("q", value), ("x", 0))),
                      ("list", (0, value)), ("record", (("a", 0), ("b", value)))])
    return tuple(found)


@functools.cache
def some_sets():
    """Sets of all kinds, each in its one form."""
    leaves = [
        "any", NONE, NUMBERS, TEXTS, TRUTHS, number(0, 0), number(1, 1), number(0, 3), number(2, 9), number(None, -1),
        number(None, 3), number(2, None), raw(((None, -1), (1, None))), raw(((0, 0), (2, 2), (9, 9))), number(-1, 1),
        texts_of("a"), texts_of("", "b", "ab"), texts_but("a"), texts_but("", "b"), raw(truths=(True,)),
        raw(truths=(False,)), raw(((0, 1),), ("of", ("a",)), (True,)),
    ]
    zero, one, text = number(0, 0), number(1, 1), texts_of("a")
    found = leaves + [
        lists(), lists(more="any"), lists(more=zero), lists(more=number(0, 1)), lists(zero), lists(one), lists("any"),
        lists(zero, more="any"), lists(zero, more=zero), lists(zero, more=text), lists(zero, one), lists(one, zero),
        lists(NUMBERS, TEXTS), lists(zero, one, text), lists(zero, one, more=text), lists("any", "any", more="any"),
        lists(NUMBERS, "any", more=TEXTS), lists(lists()), lists(lists(more="any"), more=lists()),
        lists(more=lists(more=zero)), lists(records(), more=records(more="any")), lists(number(0, 1), number(0, 1)),
        records(), records(more="any"), records(more=zero), records(("a", True, zero)), records(("a", False, zero)),
        records(("a", True, "any"), more="any"), records(("a", False, NONE), more="any"),
        records(("a", True, zero), more=zero), records(("a", True, one), more=zero),
        records(("a", False, one), more=zero),
        records(("a", True, number(0, 1)), ("b", False, text)), records(("a", True, zero), ("b", True, text)),
        records(("a", False, zero), ("b", False, text), more=TEXTS), records(("b", True, zero), more="any"),
        records(("b", False, NUMBERS), more="any"), records(("a", False, NONE), ("b", True, "any"), more=NUMBERS),
        records(("a", True, records(("a", True, zero)))), records(("a", False, lists(more="any")), more=lists()),
        records(("x", True, zero), ("y", False, one)), records(("a", True, number(0, 1)), ("x", True, NUMBERS)),
        raw(lists=((), NONE), records=((), NONE)), raw(lists=((), "any"), records=((), "any")),
        raw(((1, 1),), lists=((zero,), "any")), raw(((0, 5),), ("but", ("a",)), (True,), ((), zero), ((), one)),
        FULL[:3] + (None, None), FULL[:4] + (None,), FULL[:3] + (None, ((), "any")), FULL[:4] + (((), NUMBERS),),
        FULL[:3] + (((NUMBERS,), "any"), ((), "any")), (((None, 0), (2, None)),) + FULL[1:],
        FULL[:4] + (((("a", True, "any"),), "any"),), FULL[:4] + (((("a", False, NONE),), "any"),),
    ]
    return tuple(found)


NUM = r"(?:0|-?[1-9][0-9]{0,39})"
TEXT = r'"[a-z]*"'
LEAF = rf"{NUM}(?:\.\.(?:{NUM})?)?|\.\.{NUM}|{TEXT}|text(?: but(?: {TEXT})+)?|number|truth|true|false"


def word_form(deep):
    """A regex of one word with at most so many lists and records within one another."""
    if deep == 0:
        return rf"(?:{LEAF}|\[\]|\{{\}})"
    word = word_form(deep - 1)
    inner = rf"(?:any|nothing|{word}|\({word}(?: or {word})+\))"
    field = rf"[a-z]+\??: {inner}"
    more = rf"\.\. {inner}"
    return (rf"(?:{LEAF}|\[(?:(?:{inner}, )*(?:{inner}|{more}))?\]"
            rf"|\{{(?:(?:{field}, )*(?:{field}|{more}))?\}})")


FORM = re.compile(rf"any|nothing|{word_form(2)}(?: or {word_form(2)})*")


def is_told(text):
    """Whether a text with at most two lists and records round a leaf is one to be read, by another way."""
    if FORM.fullmatch(text) is None:
        return False
    if any(int(low) > int(high) for low, high in re.findall(rf"({NUM})\.\.({NUM})", text)):
        return False
    within = []
    for sign, name in re.findall(r"([\[\]{}])|([a-z]+)\??: ", text):
        if sign in tuple("[{"):
            within.append([])
        elif sign:
            within.pop()
        elif name in within[-1]:
            return False
        else:
            within[-1].append(name)
    return True


def value_there(value, path):
    """A list of what a value has at a path, by point 21: one value or none."""
    for name in path:
        fields = dict(value[1]) if isinstance(value, tuple) and value[0] == "record" else {}
        if name not in fields:
            return []
        value = fields[name]
    return [value]


def obeys(value, telling):
    """Whether a plain value fulfils a telling, by point 21."""
    word, path = telling[:2]
    found = value_there(value, path)
    if not found:
        return False
    if word == "wish":
        return True
    if word == "in":
        return has(telling[2], found[0])
    if word == "only":
        record = isinstance(found[0], tuple) and found[0][0] == "record"
        return record and {name for name, there in found[0][1]} <= set(telling[2])
    other = value_there(value, telling[2])
    if telling[3] == 0:
        return repr(found) == repr(other)
    numbers = [type(one) for one in found + other] == [int, int]
    return numbers and found[0] - other[0] == telling[3]


def every_value(some):
    """All values of a set that has only some."""
    numbers, (word, texts), truths, lists_part, records_part = some
    assert word == "of"
    found = [one for low, high in numbers for one in range(low, high + 1)] + list(texts) + list(truths)
    if lists_part is not None:
        assert lists_part[1] == NONE
        found += [("list", values) for values in itertools.product(*map(every_value, lists_part[0]))]
    if records_part is not None:
        assert records_part[1] == NONE
        ways = [[(name, one) for one in every_value(part)] + ([] if must else [None])
                for name, must, part in records_part[0]]
        found += [("record", tuple(filter(None, pairs))) for pairs in itertools.product(*ways)]
    return found


def prefixes(path):
    return [path[:length] for length in range(len(path) + 1)]


def told_paths(tellings):
    """The empty path, the tellings' paths and their beginnings, in order."""
    paths = [path for telling in tellings for path in (telling[1:3] if telling[0] == "same" else telling[1:2])]
    return sorted({()} | {start for path in paths for start in prefixes(path)})


def slow_ring(tellings):
    """Point 25, by a table of which told paths are the same and which lie within which."""
    paths = told_paths(tellings)
    same = {(one, one) for one in paths}
    same |= {pair for t in tellings if t[0] == "same" and t[3] == 0 for pair in ((t[1], t[2]), (t[2], t[1]))}
    while True:
        more = {(one, last) for one, other in same for first, last in same if other == first}
        more |= {(one, other) for one in paths for other in paths
                 if one and other and one[-1] == other[-1] and (one[:-1], other[:-1]) in same}
        if more <= same:
            break
        same |= more
    inside = {(one, other) for last in paths if last for one in paths if (one, last[:-1]) in same
              for other in paths if (last, other) in same}
    for middle in paths:
        inside |= {(one, other) for one in paths if (one, middle) in inside
                   for other in paths if (middle, other) in inside}
    return next((path for path in paths if (path, path) in inside), None)


def slow_classes(tellings):
    """Points 23 and 24, path by path: by place the set of the places of its class; of tellings without a ring."""
    found = {path: frozenset([path]) for path in told_paths(tellings)}

    def unite(one, other):
        both = found[one] | found[other]
        found.update({path: both for path in both})

    for telling in tellings:
        if telling[0] == "same" and telling[3] == 0:
            unite(telling[1], telling[2])
    while True:
        pairs = [(one, other, place[-1:]) for place in found if place for one in [place[:-1]] for other in found[one]]
        fresh = [(one + name, other + name) for one, other, name in pairs
                 if other + name not in found or other + name not in found[one + name]]
        if not fresh:
            return found
        for one, other in fresh:
            found.setdefault(other, frozenset([other]))
            unite(one, other)


def slow_steps(tellings, one):
    """By place all numbers, up to some hundred, by which it is more than a place; {} where that is in no group."""
    found = slow_classes(tellings)
    steps = [t for t in tellings if t[0] == "same" and t[3] != 0]
    known, fresh = set(), {(path, 0) for path in found[one]}
    while fresh:
        known |= fresh
        ways = {(t[1], number + t[3]) for path, number in fresh for t in steps if t[2] == path}
        ways |= {(t[2], number - t[3]) for path, number in fresh for t in steps if t[1] == path}
        fresh = {(path, number) for start, number in ways for path in found[start] if abs(number) < 100} - known
    group = {}
    for path, number in known:
        group.setdefault(path, set()).add(number)
    return group if any(found[one] & {t[1], t[2]} for t in steps) else {}


def shifted(some, number):
    if some == "any":
        return NUMBERS
    return raw(tuple((low if low is None else low + number, high if high is None else high + number)
                     for low, high in some[0]))


def slow_left(tellings, meet):
    """By place what point 27 counts up, met place by place until nothing changes; of tellings without a ring."""
    found = slow_classes(tellings)
    groups = {path: slow_steps(tellings, path) for path in found}
    left = {path: "any" for path in found}
    for path in found:
        for t in tellings:
            if t[0] == "in" and t[1] in found[path]:
                left[path] = meet(left[path], t[2])
            if t[0] == "only" and t[1] in found[path]:
                left[path] = meet(left[path], records(*[(name, False, "any") for name in t[2]]))
        if path == () or any(other[:-1] == path for other in found if other):
            left[path] = meet(left[path], records(more="any"))
        if groups[path]:
            left[path] = meet(left[path], NUMBERS)
        if any(len(numbers) > 1 for numbers in groups[path].values()):
            left[path] = NONE
    while True:
        after = dict(left)
        for path in found:
            for other in found[path]:
                if other:
                    after[path] = meet(after[path], field_told(left[other[:-1]], other[-1]))
            for other, numbers in groups[path].items():
                after[path] = meet(after[path], shifted(left[other], -min(numbers)))
        if after == left:
            return left
        left = after


def field_told(some, name):
    if some == "any":
        return "any"
    if some[4] is None:
        return NONE
    return {field[0]: field[2] for field in some[4][0]}.get(name, some[4][1])


def slow_clash(tellings, meet):
    """What point 27 tells of a ring or a clash, or None."""
    round_path = slow_ring(tellings)
    if round_path is not None:
        return ("ring", round_path)
    left = slow_left(tellings, meet)
    return next((("clash", path) for path in sorted(left) if left[path] == NONE), None)


# A set of only some plain values, in which a search through all of them is short.
BOUND = records(
    ("a", False, raw(((0, 2),), ("of", ("a",)), (), None, ((
        ("a", False, raw(((0, 1),), records=((), NONE))), ("b", False, number(0, 1))), NONE))),
    ("b", False, raw(((0, 2),), ("of", ()), (True,), None, ((("a", False, number(0, 1)),), NONE))),
    ("c", False, raw(((0, 1),), lists=((number(1, 1),), NONE), records=((
        ("a", False, records(("a", False, number(0, 0)))),), NONE))),
)
IN_BOUND = ("in", (), BOUND)

TOLD_SETS = (
    "any", NUMBERS, number(0, 0), number(1, 1), number(0, 1), number(1, 2), number(None, 1), number(1, None), TEXTS,
    texts_of("a"), raw(((0, 0),), ("of", ("a",))), raw(((1, 1),), truths=(True,)), lists(more="any"), NONE, records(),
    records(more="any"), records(("a", True, "any"), more="any"), records(("a", True, number(0, 1)), more="any"),
    records(("a", False, NONE), more="any"), records(("b", False, number(1, 1)), more="any"), records(more=NUMBERS),
    records(("a", True, number(1, 1)), ("b", True, number(0, 0))), records(("a", True, records(("a", True, NUMBERS)))),
    records(("b", True, "any"), more=NUMBERS), raw(((0, 1),), records=((("a", True, "any"),), NONE)),
    raw(((1, 1),), records=((("b", True, number(0, 1)),), "any")), records(more=records(more="any")),
    records(("a", False, records(more="any")), ("b", False, number(0, 0)), more="any"),
    raw(((1, 1),), lists=((), "any")), records(("a", True, records()), more="any"),
        records(("c", True, "any"), more="any"),
    raw(((0, 0),), records=((("a", True, number(0, 0)),), NONE)),
    records(("a", False, NONE), ("c", False, NONE), more="any"),
        raw(((0, 5),), ("but", ()), (False, True), ((), "any")),
)


def chance_path(chance, longest):
    return tuple([chance.choice("aabbc") for _ in range(chance.choice((0, 1, 1, 1, 2, 2, 2, 3)[:5 + longest]))])


def chance_telling(chance):
    """A telling about fields a, b and c, by chance."""
    word = chance.choice(("in",) * 6 + ("same",) * 5 + ("only",) * 2 + ("wish",) * 2)
    if word == "same":
        return (word, chance_path(chance, 2), chance_path(chance, 2), chance.choice((0, 0, 0, 1, 1, -1, 2)))
    if word == "only":
        return (word, chance_path(chance, 2), tuple(sorted(set(chance.choices("abc", k=chance.randrange(4))))))
    return (word, chance_path(chance, 3), chance.choice(TOLD_SETS))


def chance_rows(chance, many, longest=6, bounded=0.6):
    """Rows of tellings out of a pool, by chance; of many of them one tells BOUND."""
    pool = [chance_telling(chance) for _ in range(300)]
    for _ in range(many):
        row = [chance.choice(pool) for _ in range(chance.randrange(longest + 1))]
        if chance.random() < bounded:
            row.insert(chance.randrange(len(row) + 1), IN_BOUND)
        yield row


class Search:
    """All values of BOUND, and by tellings, as bits, those that fulfil them."""

    def __init__(self):
        self.values = every_value(BOUND)
        self.known = {}

    def bits(self, telling):
        if telling not in self.known:
            self.known[telling] = sum(1 << place for place, value in enumerate(self.values) if obeys(value, telling))
        return self.known[telling]

    def fulfilling(self, tellings):
        found = (1 << len(self.values)) - 1
        for telling in tellings:
            found &= self.bits(telling)
        return found

    def plain_values(self, bits):
        return [value for place, value in enumerate(self.values) if bits >> place & 1]
