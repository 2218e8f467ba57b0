"""Promises 1, 3 and 5: how a value is written and read, and what is refused."""

import itertools
import unittest

from allmeet.errors import NoValue
from allmeet.valuenotes import read_value, show_value
from allmeet.values import is_value

FORTY = "1234567890" * 4

# Every text beside the one value that it writes.
WRITTEN = (
    ("0", 0), ("1", 1), ("-1", -1), ("10", 10), ("-10", -10), ("305", 305), ("100000000000000000000", 10 ** 20),
    ("-100000000000000000000", -10 ** 20), (FORTY, int(FORTY)), ("-" + FORTY, -int(FORTY)), ("9" * 40, 10 ** 40 - 1),
    ("1" + "0" * 39, 10 ** 39), ("-" + "9" * 40, 1 - 10 ** 40),
    ('""', ""), ('"a"', "a"), ('"z"', "z"), ('"hello"', "hello"), ('"true"', "true"), ('"' + "a" * 30 + '"', "a" * 30),
    ("true", True), ("false", False),
    ("[]", ("list", ())), ("[0]", ("list", (0,))), ("[1, 2]", ("list", (1, 2))), ("[2, 1, 1]", ("list", (2, 1, 1))),
    ("[true, 1, false, 0]", ("list", (True, 1, False, 0))), ('["", "a", -5]', ("list", ("", "a", -5))),
    ("[[]]", ("list", (("list", ()),))), ("[[], [[]]]", ("list", (("list", ()), ("list", (("list", ()),))))),
    ("{}", ("record", ())), ("[{}]", ("list", (("record", ()),))), ("{a: 1}", ("record", (("a", 1),))),
    ("{a: 1, b: true}", ("record", (("a", 1), ("b", True)))),
    ('{a: "", aa: "b", ab: [], b: {}}',
     ("record", (("a", ""), ("aa", "b"), ("ab", ("list", ())), ("b", ("record", ()))))),
    ("{true: false}", ("record", (("true", False),))), ("{abcdefghij: 1}", ("record", (("abcdefghij", 1),))),
    ('{a: {b: [1, {c: "x"}]}, z: -7}',
     ("record", (("a", ("record", (("b", ("list", (1, ("record", (("c", "x"),))))),))), ("z", -7)))),
)

REFUSED = (
    "", " ", "\n", "1 ", " 1", "1\n", "\n1", "1\t", "1 2", "1, 2", "1,", ",", "+1", "-0", "00", "01", "-01", "-00",
    "000", "-", "--1", "- 1", "1-", "1-1", "1.0", "1.", ".5", "1e3", "1_000", "0x1", "0b1", "1..3", "..5", "3..",
    "\u0663", "\u00b2", "\uff11", "1\u0663", "-\u0663", "\u22121",
    "1" * 41, "-" + "1" * 41, "0" * 40, "0" * 41, "9" * 5000, "9" * 100000, "-" + "9" * 99999, "[" + "1" * 41 + "]",
    "{a: " + "1" * 41 + "}", "[1, -" + "1" * 41 + "]",
    "True", "False", "TRUE", "tru", "truee", "true ", " true", "truefalse", "t", "fals", "falsee", "None", "null",
    "any", "nothing", "text", "number", "truth", "a", "abc",
    "'a'", '"', '"a', 'a"', '"""', '"a""b"', '"A"', '"a b"', '"a1"', '" "', '"a "', '" a"', '"a\n"', '"\n"', '"-"',
    '"\u00e9"', '"\u00df"', '"a\\""', '"a" ', ' "a"', '"a"b', '"a", "b"', '"a', '"[]"', '"`"', '"{"',
    "[", "]", "[1", "1]", "[1,2]", "[1,  2]", "[1 , 2]", "[1 ,2]", "[ 1]", "[1 ]", "[1, ]", "[1,]", "[, 1]", "[,]",
    "[, ]", "[1, 2,]", "[1, 2, ]", "[1, , 2]", "[]]", "[[]", "[1 2]", "[ ]", "[], []", "[] ", " []", "[][]", "[1;2]",
    "[1}", "[01]", "[-0]", "[a]", "[true false]", "[\n]", "[1,\n2]", "[1,\t2]", "[1,\u00a02]", "(1)", "()", "(1, 2)",
    "{", "}", "{a", "{a:", "{a: ", "{a: 1", "{a: }", "{a}", "{a:1}", "{a : 1}", "{a:  1}", "{ a: 1}", "{a: 1 }",
    "{a: 1,b: 2}", "{a: 1,  b: 2}", "{a: 1 , b: 2}", "{a: 1, }", "{a: 1,}", "{, a: 1}", "{,}", "{ }", "{: 1}",
    "{A: 1}", "{aB: 1}", "{a1: 1}", "{1: 1}", "{true}", '{"a": 1}', "{a.b: 1}", "{a_b: 1}", "{\u00e9: 1}", "{a?: 1}",
    "{a=1}", "{a: 1]", "{[]}", "{1}", "{a: 1}}", "{{a: 1}", "{a: {b: 1}", "{a: 1} ", "{a: b}", "{a: 1; b: 2}",
    "{a: 1, 2}", "{a: 1, b}", "{a: 1 b: 2}", "{a: 1, .. any}", "[.. 5]", "{a: 01}", "{ a: 1 }", "{a:\n1}",
    "{b: 1, a: 1}", "{a: 1, a: 1}", "{a: 1, a: 2}", "{aa: 1, a: 1}", "{b: 1, aa: 1}", "{ba: 1, b: 1}",
    "{a: 1, c: 1, b: 1}", "{a: 1, b: 1, b: 1}", "[{b: 1, a: 1}]", "{a: {b: 1, a: 1}}",
    "#", "\\", "1#", "\0", "\ud800", "\ufeff1",
)


def lists(deep, leaf):
    return "[" * deep + leaf + "]" * deep


def records(deep, leaf):
    return "{a: " * deep + leaf + "}" * deep


def mixed(deep, leaf):
    text = leaf
    for number in range(deep):
        text = "{a: 1, b: " + text + ", c: []}" if number % 2 else "[1, " + text + ", 2]"
    return text


class Written(unittest.TestCase):
    def refuses(self, text):
        try:
            value = read_value(text)
        except NoValue:
            return
        self.fail(f"{ascii(text[:80])} is read as {value!r}")

    def test_written(self):
        for text, value in WRITTEN:
            self.assertEqual(show_value(value), text)
            self.assertIsInstance(show_value(value), str)

    def test_read(self):
        for text, value in WRITTEN:
            # By repr, for which 1 and True are not the same.
            self.assertEqual(repr(read_value(text)), repr(value))

    def test_refused(self):
        for text in REFUSED:
            self.refuses(text)

    def test_forty_figures(self):
        for wrap in ("%s", "[%s]", "[1, %s, 2]", "{a: %s}"):
            for sign in ("", "-"):
                kept = wrap % (sign + "8" * 40)
                self.assertEqual(show_value(read_value(kept)), kept)
                self.refuses(wrap % (sign + "8" * 41))

    def test_twenty_within_one_another(self):
        for nest in (lists, records, mixed):
            for leaf in ("[]", "{}", "0", "-5", '""', '"a"', "true", "false"):
                kept = nest(19, leaf)
                self.assertEqual(show_value(read_value(kept)), kept)
                for deep in (20, 21, 22, 40, 500):
                    self.refuses(nest(deep, leaf))

    def test_twenty_empty_lists_within_one_another(self):
        self.assertEqual(show_value(read_value("[" * 20 + "]" * 20)), "[" * 20 + "]" * 20)
        self.refuses("[" * 21 + "]" * 21)
        self.refuses("[" * 20 + "1" + "]" * 20)
        self.refuses("[" * 20 + "{}" + "]" * 20)
        self.assertEqual(show_value(read_value("[" * 19 + "{}" + "]" * 19)), "[" * 19 + "{}" + "]" * 19)

    def test_lists_beside_one_another_are_not_within(self):
        text = "[" + ", ".join(["[]"] * 30 + ["[1]"] * 30) + "]"
        self.assertEqual(show_value(read_value(text)), text)
        text = "[" + lists(18, "1") + ", " + lists(18, "2") + ", " + records(18, "3") + "]"
        self.assertEqual(show_value(read_value(text)), text)
        self.refuses("[1, " + lists(18, "1") + ", " + lists(19, "2") + "]")
        self.refuses("{a: 1, b: " + lists(19, "2") + ", c: 1}")

    def test_long_texts(self):
        long_list = "[" + ", ".join(["1"] * 33333) + "]"
        self.assertLessEqual(len(long_list), 100000)
        value = read_value(long_list)
        self.assertEqual(value, ("list", (1,) * 33333))
        self.assertEqual(show_value(value), long_list)
        long_text = '"' + "a" * 99998 + '"'
        self.assertEqual(read_value(long_text), "a" * 99998)
        for text in ("[" * 100000, "{a: " * 25000, "[" * 50000 + "]" * 50000, '"' + "a" * 99999, "[1, " * 25000,
                     "1, " * 33333, long_list[:-1], "a" * 100000, " " * 100000, "-" * 100000):
            self.refuses(text)

    def test_beyond_the_bounds_it_is_still_written(self):
        value = ("list", ())
        for number in range(25):
            value = ("list", (value,))
        self.assertEqual(show_value(value), "[" * 26 + "]" * 26)
        self.assertEqual(show_value(10 ** 45), "1" + "0" * 45)


def small_values():
    """All values of a few leaves, two lists or records within one another."""
    leaves = [0, 1, -1, 12, "", "a", "ab", True, False, ("list", ()), ("record", ())]
    found = list(leaves)
    for one, other in itertools.product(leaves, leaves):
        found.append(("list", (one, other)))
        found.append(("record", (("a", one), ("b", other))))
    for value in list(found):
        found.append(("list", (value,)))
        found.append(("record", (("ab", value),)))
        found.append(("list", (False, value, 1)))
    return found


class BackAndForth(unittest.TestCase):
    def told_or_refused(self, text):
        try:
            value = read_value(text)
        except NoValue:
            return
        self.assertIs(is_value(value), True, text)
        self.assertEqual(show_value(value), text)

    def test_every_small_value_is_read_back_the_same(self):
        texts = []
        for value in small_values():
            texts.append(show_value(value))
            self.assertEqual(repr(read_value(texts[-1])), repr(value))
        self.assertEqual(len(set(texts)), len({repr(value) for value in small_values()}))

    def test_a_text_is_read_only_where_it_is_the_value_s_own(self):
        for length in range(5):
            for signs in itertools.product('019-"ab[]{}:, ', repeat=length):
                self.told_or_refused("".join(signs))
        for words in itertools.product(("[", "]", "{", "}", "a: ", "b: ", ", ", "1", "true", '""', "-"), repeat=5):
            self.told_or_refused("".join(words))

    def test_a_text_with_one_sign_changed(self):
        for text, value in WRITTEN:
            for at in range(len(text) + 1):
                self.told_or_refused(text[:at] + text[at + 1:])
                for sign in '01-"azA[]{}:, .\n\u00e9':
                    self.told_or_refused(text[:at] + sign + text[at:])
                    self.told_or_refused(text[:at] + sign + text[at + 1:])


if __name__ == "__main__":
    unittest.main()
