"""Things that are no value, no name and no part of a set, whatever is asked."""

import decimal
import fractions


class Grudging:
    """A thing whose every comparison fails."""

    __hash__ = None

    def refuse(self, other):
        raise RuntimeError("not to be compared")

    __eq__ = __ne__ = __lt__ = __le__ = __gt__ = __ge__ = refuse

    def __bool__(self):
        raise RuntimeError("not to be asked")


class Agreeing:
    """A thing that says it is the same as anything, and below and above it."""

    __hash__ = None

    def agree(self, other):
        return True

    __eq__ = __lt__ = __le__ = __gt__ = __ge__ = agree


def within_itself():
    ring = []
    ring.append(("list", (ring,)))
    return ring


def odd_things():
    """New things of many kinds, none of them a whole number, text, truth or tuple."""
    return [
        None, [], [1], ["list", ()], ["of", ()], [(1, 2)], [False], {}, {"a": 1}, set(), {"a"},
        frozenset(), b"", b"a", bytearray(b"a"), range(3), 1j, fractions.Fraction(2),
        decimal.Decimal(2), object(), int, str, tuple, len, odd_things, lambda: 1, iter(()),
        Ellipsis, NotImplemented, ValueError("a"), slice(1, 2), memoryview(b"a"),
        Grudging(), Agreeing(), within_itself(),
    ]
