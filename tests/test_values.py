"""Promises 1, 3 and 4: what a value and a name are, sameness, order."""

import itertools
import unittest

from allmeet.values import ahead, is_name, is_value, same_value
from things import Agreeing, Grudging, odd_things

WRONG_TEXTS = (
    "A", "aB", "Ab", "a b", " a", "a ", "a1", "1", "-", "_", "a_b", "a-b", ".", "a.b", "\n", "a\n",
    "\na", "a\tb", "\0", "`", "{", '"', '"a"', "\u00e9", "\u00df", "\u00aa", "\u0430", "\uff41",
    "a\u0301", "\ud800", "\U0001d41a",
)


def a_list(*values):
    return ("list", values)


def a_record(*pairs):
    return ("record", pairs)


def nested(deep, leaf):
    for number in range(deep):
        leaf = a_record(("a", leaf)) if number % 2 else a_list(1, leaf)
    return leaf


class IsValue(unittest.TestCase):
    def holds(self, thing):
        self.assertIs(is_value(thing), True, repr(thing)[:200])

    def fails(self, thing):
        self.assertIs(is_value(thing), False, repr(thing)[:200])

    def test_whole_numbers_of_any_size(self):
        for number in (0, 1, -1, 7, 10 ** 20, -10 ** 20, 10 ** 40, -10 ** 40):
            self.holds(number)
        self.assertIs(is_value(10 ** 9000), True)
        self.assertIs(is_value(-10 ** 9000), True)

    def test_truths(self):
        self.holds(True)
        self.holds(False)

    def test_texts_of_none_or_more_small_letters(self):
        for text in ("", "a", "z", "az", "list", "record", "abcdefghijklmnopqrstuvwxyz", "x" * 31, "y" * 5000):
            self.holds(text)
        for text in WRONG_TEXTS:
            self.fails(text)

    def test_lists(self):
        for thing in (a_list(), a_list(1), a_list(1, 1), a_list("", True, a_list()), a_list(a_record()),
                      a_list(*range(200)), a_list("list", 1), a_list("record", a_list())):
            self.holds(thing)

    def test_no_lists(self):
        for thing in (
            (), ("list",), ("list", (), ()), ((), "list"), ("List", ()), ("lists", ()), ("", ()), (1, ()),
            (True, ()), ("list", []), ("list", [1]), ("list", None), ("list", 1), ("list", ""), ("list", "ab"),
            ("list", {}), ["list", ()], ("list", ((),)), a_list(None), a_list([]), a_list(1, None),
            a_list(None, 1), a_list("A"), a_list(("a", 1)), a_list(a_list("B")), ("tuple", ()), (b"list", ()),
            (1, 2), ("a", "b"), ((1, 2),), ("of", ()), ("any",), ("list", ((), "list")),
        ):
            self.fails(thing)

    def test_records(self):
        for thing in (
            a_record(), a_record(("a", 1)), a_record(("a", a_record(("a", 1)))), a_record(("abcdefghijkl", 1)),
            a_record(("a", 1), ("b", 1)), a_record(("a", True), ("aa", ""), ("ab", a_list()), ("b", -1)),
            a_record(("aa", 1), ("b", 1)), a_record(("list", a_list()), ("record", a_record())),
        ):
            self.holds(thing)

    def test_no_records(self):
        for thing in (
            ("record",), ("record", (), ()), ("Record", ()), ("record", []), ("record", {}), ("record", None),
            ("record", ""), ("record", "ab"), ("record", [("a", 1)]), ["record", ()], a_record(["a", 1]),
            a_record("ab"), a_record(()), a_record(("a",)), a_record(("a", 1, 2)), a_record(("", 1)),
            a_record(("A", 1)), a_record(("a1", 1)), a_record((1, 1)), a_record((None, 1)), a_record((True, 1)),
            a_record(("a", None)), a_record(("a", [])), a_record(("a", "A")), a_record(("a", a_list(None))),
            a_record(1), a_record(None), a_record(("a", 1), None), ("record", ("a", 1)), ("record", {"a": 1}),
            a_record((1, "a")), a_record(("a\n", 1)), a_record(("\u00e9", 1)),
        ):
            self.fails(thing)

    def test_names_of_a_record_rise_and_are_unlike(self):
        names = ("a", "aa", "ab", "abc", "b", "ba", "z")
        for one, other in itertools.product(names, names):
            rises = names.index(one) < names.index(other)
            self.assertIs(is_value(a_record((one, 1), (other, 1))), rises, (one, other))
        self.fails(a_record(("a", 1), ("a", 1)))
        self.fails(a_record(("a", 1), ("c", 1), ("b", 1)))
        self.fails(a_record(("a", 1), ("b", 1), ("b", 2)))
        self.fails(a_list(a_record(("b", 1), ("a", 1))))

    def test_of_anything(self):
        for thing in odd_things():
            self.fails(thing)
            self.fails((thing,))
            self.fails((thing, ()))
            self.fails(("list", thing))
            self.fails(("record", thing))
            self.fails(a_list(thing))
            self.fails(a_list(1, thing))
            self.fails(a_record(thing))
            self.fails(a_record((thing, 1)))
            self.fails(a_record(("a", thing)))
            self.fails(a_record(("a", 1), (thing, 1)))

    def test_however_deep(self):
        self.assertIs(is_value(nested(20000, "")), True)
        self.assertIs(is_value(nested(20000, None)), False)
        self.assertIs(is_value(nested(20000, "A")), False)

    def test_what_is_handed_in_stays(self):
        inner = [1]
        is_value(("list", inner))
        is_value(inner)
        self.assertEqual(inner, [1])


class IsName(unittest.TestCase):
    def test_one_or_more_small_letters(self):
        for name in ("a", "z", "abc", "abcdefgh", "abcdefghi", "x" * 30, "y" * 500, "list", "true"):
            self.assertIs(is_name(name), True, name)
        self.assertIs(is_name(""), False)
        for text in WRONG_TEXTS:
            self.assertIs(is_name(text), False, ascii(text))

    def test_of_anything(self):
        for thing in odd_things() + [0, 1, True, False, (), ("a",), ("a", 1), a_list("a"), ["a"], b"a"]:
            self.assertIs(is_name(thing), False, repr(thing))


# Rising by promise 4; no two are the same.
CHAIN = (
    0, 1, -1, 2, -2, 3, -3, 9, -9, 10, -10, 10 ** 20 - 1, 10 ** 20, -10 ** 20, 10 ** 20 + 1, 10 ** 50, -10 ** 50,
    "", "a", "b", "z", "aa", "ab", "az", "ba", "zz", "aaa", "aab", "zaa", "aaaa", "a" * 30, "a" * 29 + "b",
    False, True,
    a_list(), a_list(0), a_list(1), a_list(-1), a_list(2), a_list(""), a_list("z"), a_list("aa"), a_list(False),
    a_list(True), a_list(a_list()), a_list(a_list(5)), a_list(a_list(0, 0)), a_list(a_record()),
    a_list(a_record(("a", 1))),
    a_list(0, 0), a_list(0, 1), a_list(0, "a"), a_list(0, True), a_list(1, 0), a_list(1, 1), a_list(-1, 0),
    a_list("a", 5), a_list("b", 0), a_list(a_list(0), 5), a_list(a_list(1), 0), a_list(a_list(0, 0), 0),
    a_list(0, 0, 0),
    a_record(), a_record(("a", 0)), a_record(("a", 1)), a_record(("a", -1)), a_record(("a", "")),
    a_record(("a", True)), a_record(("a", a_list())), a_record(("a", a_record())), a_record(("aa", 0)),
    a_record(("aab", 0)), a_record(("ab", 0)), a_record(("b", 0)), a_record(("ba", 0)), a_record(("c", 0)),
    a_record(("a", 0), ("b", 0)), a_record(("a", 0), ("b", 1)), a_record(("a", 1), ("b", 0)),
    a_record(("a", True), ("b", True)), a_record(("a", 0), ("ba", 0)), a_record(("a", 0), ("c", 0)),
    a_record(("aa", 0), ("b", 0)), a_record(("b", 0), ("c", 0)), a_record(("a", 0), ("b", 0), ("c", 0)),
)


class SameAndAhead(unittest.TestCase):
    def test_the_chain_is_of_values(self):
        for value in CHAIN:
            self.assertIs(is_value(value), True, value)

    def test_the_order(self):
        for at, one in enumerate(CHAIN):
            for there, other in enumerate(CHAIN):
                self.assertIs(ahead(one, other), at < there, (one, other))

    def test_sameness(self):
        for at, one in enumerate(CHAIN):
            for there, other in enumerate(CHAIN):
                self.assertIs(same_value(one, other), at == there, (one, other))

    def test_a_truth_is_no_number(self):
        for number, truth in ((0, False), (1, True)):
            for wrap in (
                lambda x: x, a_list, lambda x: a_list(x, 5), lambda x: a_list(5, x),
                lambda x: a_record(("a", x)), lambda x: a_record(("a", 5), ("b", x)),
                lambda x: a_list(a_record(("a", a_list(x)))),
            ):
                self.assertIs(same_value(wrap(number), wrap(truth)), False)
                self.assertIs(same_value(wrap(truth), wrap(number)), False)
                self.assertIs(same_value(wrap(truth), wrap(truth)), True)
                self.assertIs(same_value(wrap(number), wrap(number)), True)
                self.assertIs(ahead(wrap(number), wrap(truth)), True)
                self.assertIs(ahead(wrap(truth), wrap(number)), False)

    def test_the_first_difference_decides(self):
        self.assertIs(ahead(a_list(0, 1, 0), a_list(0, 0, 5)), False)
        self.assertIs(ahead(a_list(0, 0, 5), a_list(0, 1, 0)), True)
        self.assertIs(ahead(a_list(a_list(0, 1), 0), a_list(a_list(0, 0), 9)), False)
        self.assertIs(ahead(a_record(("a", 1), ("b", 0)), a_record(("a", 0), ("b", 9))), False)

    def test_all_names_come_ahead_of_the_values(self):
        one = a_record(("a", 9), ("b", 9))
        other = a_record(("a", 0), ("c", 0))
        self.assertIs(ahead(one, other), True)
        self.assertIs(ahead(other, one), False)

    def test_a_record_s_names_are_ordered_as_names_not_as_texts(self):
        self.assertIs(ahead(a_record(("ab", 0)), a_record(("b", 0))), True)
        self.assertIs(ahead("b", "ab"), True)

    def test_twenty_deep(self):
        for deep in (19, 25):
            self.assertIs(same_value(nested(deep, 1), nested(deep, 1)), True)
            self.assertIs(same_value(nested(deep, 1), nested(deep, True)), False)
            self.assertIs(ahead(nested(deep, 1), nested(deep, -1)), True)
            self.assertIs(ahead(nested(deep, -1), nested(deep, 1)), False)
            self.assertIs(ahead(nested(deep, 1), nested(deep, 1)), False)

    def test_numbers_of_any_size(self):
        big = 10 ** 5000
        self.assertIs(same_value(big, big + 1), False)
        self.assertIs(same_value(big, 10 ** 5000), True)
        self.assertIs(ahead(big, -big), True)
        self.assertIs(ahead(-big, big), False)
        self.assertIs(ahead(-big, big + 1), True)


class Kinds(unittest.TestCase):
    def test_what_is_asked_of_odd_things_holds_of_no_tuple_of_them(self):
        for thing in ((Grudging(), Grudging()), (Agreeing(), Agreeing()), (Agreeing(), ()), ("list", Agreeing())):
            self.assertIs(is_value(thing), False)


if __name__ == "__main__":
    unittest.main()
