"""Things for the tests: some that are of no kind that is asked for, and some values and sets.

What is told here of sets is told by the words of the document alone, not by the program.
"""

import decimal
import fractions
import functools
import itertools


class Grudging:
    """A thing whose every comparison fails."""

    __hash__ = None

    def refuse(self, other):
        raise RuntimeError("not to be compared")

    __eq__ = __ne__ = __lt__ = __le__ = __gt__ = __ge__ = refuse

    def __bool__(self):
        raise RuntimeError("not to be asked")


class Agreeing:
    """A thing that says it is the same as anything, and below and above it."""

    __hash__ = None

    def agree(self, other):
        return True

    __eq__ = __lt__ = __le__ = __gt__ = __ge__ = agree


def within_itself():
    ring = []
    ring.append(("list", (ring,)))
    return ring


def odd_things():
    """New things of many kinds, none of them a whole number, text, truth or tuple."""
    return [
        None, [], [1], ["list", ()], ["of", ()], [(1, 2)], [False], {}, {"a": 1}, set(), {"a"},
        frozenset(), b"", b"a", bytearray(b"a"), range(3), 1j, fractions.Fraction(2),
        decimal.Decimal(2), object(), int, str, tuple, len, odd_things, lambda: 1, iter(()),
        Ellipsis, NotImplemented, ValueError("a"), slice(1, 2), memoryview(b"a"),
        Grudging(), Agreeing(), within_itself(),
    ]


def raw(numbers=(), texts=("of", ()), truths=(), lists=None, records=None):
    return (numbers, texts, truths, lists, records)


NONE = raw()
FULL = (((None, None),), ("but", ()), (False, True), ((), "any"), ((), "any"))
NUMBERS = raw(((None, None),))
TEXTS = raw((), ("but", ()))
TRUTHS = raw(truths=(False, True))


def number(low, high):
    return raw(((low, high),))


def texts_of(*texts):
    return raw((), ("of", texts))


def texts_but(*texts):
    return raw((), ("but", texts))


def a_list(*values):
    return ("list", values)


def a_record(**fields):
    return ("record", tuple(sorted(fields.items())))


def lists(*fronts, more=NONE):
    return raw(lists=(fronts, more))


def records(*fields, more=NONE):
    return raw(records=(fields, more))


def has(some, value):
    """Whether a set has a value, by points 6 to 8; also asked of tuples that aren't in the one form."""
    if some == "any":
        return True
    numbers, (word, texts), truths, lists_part, records_part = some
    if isinstance(value, bool):
        return value in truths
    if isinstance(value, int):
        return any((low is None or low <= value) and (high is None or value <= high) for low, high in numbers)
    if isinstance(value, str):
        return (value in texts) if word == "of" else (value not in texts)
    if value[0] == "list":
        if lists_part is None:
            return False
        fronts, more = lists_part
        behind = len(value[1]) - len(fronts)
        return behind >= 0 and all(map(has, fronts + (more,) * behind, value[1]))
    if records_part is None:
        return False
    fields, more = records_part
    there = dict(value[1])
    told = {name: part for name, must, part in fields}
    if any(must and name not in there for name, must, part in fields):
        return False
    return all(has(told.get(name, more), part) for name, part in there.items())


LEAVES = (0, 1, 2, 3, -1, -2, 9, "", "a", "b", "ab", False, True)


@functools.cache
def some_values():
    """Values of all kinds, some of them within one another."""
    found = list(LEAVES) + [5, 7, -7, 10 ** 20, "z", "aa", "zzz"]
    inner = (0, 1, 5, "a", True, ("list", ()), ("record", ()), ("list", (0,)), ("record", (("a", 0),)))
    for length in range(4):
        found.extend(("list", values) for values in itertools.product(inner[:4 if length == 3 else 9], repeat=length))
    for values in itertools.product((None,) + inner[:5], repeat=3):
        found.append(("record", tuple((name, value) for name, value in zip("abx", values) if value is not None)))
    for value in inner[5:]:
        found.extend([("record", (("a", value),)), ("record", (("b", value),)), ("record", (("q", value), ("x", 0))),
                      ("list", (0, value)), ("record", (("a", 0), ("b", value)))])
    return tuple(found)


@functools.cache
def some_sets():
    """Sets of all kinds, each in its one form."""
    leaves = [
        "any", NONE, NUMBERS, TEXTS, TRUTHS, number(0, 0), number(1, 1), number(0, 3), number(2, 9), number(None, -1),
        number(None, 3), number(2, None), raw(((None, -1), (1, None))), raw(((0, 0), (2, 2), (9, 9))), number(-1, 1),
        texts_of("a"), texts_of("", "b", "ab"), texts_but("a"), texts_but("", "b"), raw(truths=(True,)),
        raw(truths=(False,)), raw(((0, 1),), ("of", ("a",)), (True,)),
    ]
    zero, one, text = number(0, 0), number(1, 1), texts_of("a")
    found = leaves + [
        lists(), lists(more="any"), lists(more=zero), lists(more=number(0, 1)), lists(zero), lists(one), lists("any"),
        lists(zero, more="any"), lists(zero, more=zero), lists(zero, more=text), lists(zero, one), lists(one, zero),
        lists(NUMBERS, TEXTS), lists(zero, one, text), lists(zero, one, more=text), lists("any", "any", more="any"),
        lists(NUMBERS, "any", more=TEXTS), lists(lists()), lists(lists(more="any"), more=lists()),
        lists(more=lists(more=zero)), lists(records(), more=records(more="any")), lists(number(0, 1), number(0, 1)),
        records(), records(more="any"), records(more=zero), records(("a", True, zero)), records(("a", False, zero)),
        records(("a", True, "any"), more="any"), records(("a", False, NONE), more="any"),
        records(("a", True, zero), more=zero), records(("a", True, one), more=zero),
        records(("a", False, one), more=zero),
        records(("a", True, number(0, 1)), ("b", False, text)), records(("a", True, zero), ("b", True, text)),
        records(("a", False, zero), ("b", False, text), more=TEXTS), records(("b", True, zero), more="any"),
        records(("b", False, NUMBERS), more="any"), records(("a", False, NONE), ("b", True, "any"), more=NUMBERS),
        records(("a", True, records(("a", True, zero)))), records(("a", False, lists(more="any")), more=lists()),
        records(("x", True, zero), ("y", False, one)), records(("a", True, number(0, 1)), ("x", True, NUMBERS)),
        raw(lists=((), NONE), records=((), NONE)), raw(lists=((), "any"), records=((), "any")),
        raw(((1, 1),), lists=((zero,), "any")), raw(((0, 5),), ("but", ("a",)), (True,), ((), zero), ((), one)),
        FULL[:3] + (None, None), FULL[:4] + (None,), FULL[:3] + (None, ((), "any")), FULL[:4] + (((), NUMBERS),),
        FULL[:3] + (((NUMBERS,), "any"), ((), "any")), (((None, 0), (2, None)),) + FULL[1:],
        FULL[:4] + (((("a", True, "any"),), "any"),), FULL[:4] + (((("a", False, NONE),), "any"),),
    ]
    return tuple(found)
