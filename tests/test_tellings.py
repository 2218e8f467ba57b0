"""Promises 1, 20 to 22 and 29: what is a telling, what fulfils it, how it is written and read."""

import copy
import itertools
import re
import unittest

from allmeet.errors import MeetError, NoNumber, NoRow, NoSet, NoTelling, NoValue
from allmeet.setnotes import read_set
from allmeet.tellings import at_path, fulfils, is_telling, read_telling, show_telling
from things import (
    NONE, NUMBERS, TEXTS, a_list, a_record, is_told, lists, number, obeys, odd_things, raw, records, some_sets,
    some_values, texts_of, value_there,
)

BIG = 10 ** 20
FORTY = "1234567890" * 4
ONE = number(1, 1)
DEEP = ("a", "b", "c", "d")

# Every text beside the one telling that it writes.
WRITTEN = (
    ("a in 1", ("in", ("a",), ONE)), (". in any", ("in", (), "any")), (". in {}", ("in", (), records())),
    ("a.b in nothing", ("in", ("a", "b"), NONE)), ("a.b.c.d in 1..5", ("in", DEEP, number(1, 5))),
    ("abc.x in ..5 or 7..", ("in", ("abc", "x"), raw(((None, 5), (7, None))))),
    ('a in text but "a" "b"', ("in", ("a",), raw((), ("but", ("a", "b"))))),
    ("a in {a: 1, b?: (1 or text), .. any}", ("in", ("a",), records(
        ("a", True, ONE), ("b", False, raw(((1, 1),), ("but", ()))), more="any"))),
    ("a in [1, .. any]", ("in", ("a",), lists(ONE, more="any"))), ("in in number", ("in", ("in",), NUMBERS)),
    ("in.in in text", ("in", ("in", "in"), TEXTS)), ('any.or in "in"', ("in", ("any", "or"), texts_of("in"))),
    ("a wish 1", ("wish", ("a",), ONE)), (". wish any", ("wish", (), "any")),
    ("wish wish nothing", ("wish", ("wish",), NONE)),
    ("a.b.c.d wish {.. any}", ("wish", DEEP, records(more="any"))),
    ("a.b wish 1 or 3", ("wish", ("a", "b"), raw(((1, 1), (3, 3))))),
    ("a = b", ("same", ("a",), ("b",), 0)), ("a = a", ("same", ("a",), ("a",), 0)), (". = .", ("same", (), (), 0)),
    (". = a.b", ("same", (), ("a", "b"), 0)), ("a.b = .", ("same", ("a", "b"), (), 0)),
    ("a.b.c.d = d.c.b.a", ("same", DEEP, DEEP[::-1], 0)), ("a = b + 3", ("same", ("a",), ("b",), 3)),
    ("a = b - 3", ("same", ("a",), ("b",), -3)), ("a = b + 1", ("same", ("a",), ("b",), 1)),
    ("a = b - 1", ("same", ("a",), ("b",), -1)), (". = . + 1", ("same", (), (), 1)),
    ("a = a - 10", ("same", ("a",), ("a",), -10)),
    ("a.b = c.d + 100000000000000000000", ("same", ("a", "b"), ("c", "d"), BIG)),
    ("a.b = c.d - 100000000000000000000", ("same", ("a", "b"), ("c", "d"), -BIG)),
    ("a = b + " + FORTY, ("same", ("a",), ("b",), int(FORTY))),
    ("a = b - " + FORTY, ("same", ("a",), ("b",), -int(FORTY))),
    ("a only", ("only", ("a",), ())), (". only", ("only", (), ())), ("a only b", ("only", ("a",), ("b",))),
    ("a only a b c", ("only", ("a",), ("a", "b", "c"))), (". only a aa ab b", ("only", (), ("a", "aa", "ab", "b"))),
    ("only only only", ("only", ("only",), ("only",))), ("only only", ("only", ("only",), ())),
    ("a.b.c.d only in only wish", ("only", DEEP, ("in", "only", "wish"))),
    ("abcdefgh.abcdefgh in 1", ("in", ("abcdefgh", "abcdefgh"), ONE)),
    ("a only abcdefgh", ("only", ("a",), ("abcdefgh",))),
)

# Texts that are read, beside the one that writes the same telling.
FREELY = (
    ("a in 3 or 1", "a in 1 or 3"), ("a in 1 or 2", "a in 1..2"), ("a in 3..3", "a in 3"),
    ("a wish 1 or 1", "a wish 1"),
    ('a wish text but "b" "a" "b"', 'a wish text but "a" "b"'), (". in {b: 1, a: 2}", ". in {a: 2, b: 1}"),
    ("a in {a?: any, .. any}", "a in {.. any}"), ("a in [1, nothing]", "a in nothing"),
    ("a wish [.. nothing]", "a wish []"),
    ("a in number or text or truth or [.. any] or {.. any}", "a in any"), ("a in [(1 or 1)]", "a in [1]"),
    ("a in true or false", "a in truth"), ("a wish {a: nothing}", "a wish nothing"),
)

REFUSED = (
    "", " ", ".", "a", "a.b", "in", "a in", "a in ", " in 1", "in 1", "a in  1", "a  in 1", " a in 1", "a in 1 ",
    "a in 1\n",
    "\na in 1", "a\nin 1", "a\tin 1", "a in\n1", "ain 1", "a in1", "a In 1", "A in 1", "a1 in 1", "a_b in 1", "1 in 1",
    "\u00e9 in 1", '"a" in 1', "a in x", "a in a", "a in any or 1", "a in (1 or 2)", "a in 5..3", "a in 01", "a in -0",
    "a in " + "1" * 41, "a in {a: 1, a: 1}", "a in [1,2]", "a in {", "a in a in 1", "a in 1 in 1", "a in 1, b in 1",
    "a in 1 b",
    "a is 1", "a : 1", "a: 1", "a in 1;", "a wishes 1", "a wish", "a wish ", "a wish x", "a  wish 1", "a wish  1",
    "a wish 1 ",
    "a Wish 1", "awish 1", "a wish1", "wish 1", "a wish 1 or any", "a wish b", "a wish in 1",
    "..", ".. in 1", ".a in 1", "a. in 1", "a..b in 1", ". .a in 1", "a .b in 1", "a. b in 1", "a.b. in 1", ".in 1",
    ". in", ". in ",
    "a.b.c.d.e in 1", "a.b.c.d. in 1", "a.b.c.d.e only", "a.b.c.d.e = a", "a = a.b.c.d.e", "a = a.b.c.d.",
    "a.b.c.d.e wish 1",
    "a/b in 1", "a,b in 1", "a.B in 1", "a.1 in 1", "a-b in 1", "a.b.c.d.e.f.g in 1", "() in 1", "... in 1",
    "=", " = ", "a =", "a = ", "= a", " = a", "a=b", "a= b", "a =b", "a  = b", "a =  b", "a == b", "a = b ", "a = b\n",
    "a = 1",
    "a = b = c", "a = b c", "a = B", "a = b.", "a = .b", "a = ..", "a = b..c", "a = b, c", 'a = "b"', "a = -b",
    "a != b",
    "a = b +", "a = b + ", "a = b -", "a = b - ", "a = b + 0", "a = b - 0", "a = b + -1", "a = b - -1", "a = b + +1",
    "a = b + 01",
    "a = b - 01", "a = b + 00", "a = b +1", "a = b+ 1", "a = b+1", "a = b -1", "a = b- 1", "a = b  + 1", "a = b +  1",
    "a = b + 1 ",
    "a = b + 1.0", "a = b + 1..2", "a = b + 1 + 1", "a = b + 1 - 1", "a = b + a", "a = b + c", "a = 1 + b", "a + 1 = b",
    "a = b * 2", "a = b + " + "1" * 41, "a = b - " + "1" * 41, "a = b + \u0663", "a = b + 1e3", "a = b + 1_0",
    "a = b \u2212 1",
    "a = b + 1\n", "a = b + -0", "a = b + 1a", "a = . + . + 1", "a = b + " + "0" * 40,
    "only", "a Only", "a only ", "a only  b", "a only b ", "a only b  c", "a onlyb", "a  only b", " only b", "only b",
    "a only b, c",
    "a only b.c", "a only .", "a only B", "a only b1", "a only 1", "a only c b", "a only b b", "a only aa a",
    "a only a c b",
    "a only b\n", "a only\n", "a only\tb", "a only b\tc", 'a only "b"', "a only (b)", "a only b = c", "a only b in 1",
    "aonly b",
    "a only \u00e9", "a only b c c", "a only a b a", "only.only", "only only ", "wish wish", "in in", "in in in",
    "= = =",
    "a in 1 wish 1", "a", "\0", "\ud800", "\ufeffa in 1", "a in 1\0", "a in [" * 30,
    "a in " + "[" * 20 + "1" + "]" * 20,
)

PATH = r"(?:\.|[a-z]+(?:\.[a-z]+){0,3})"


def is_written(text):
    """Whether a text is one to be read, its sets with at most two lists and records round a leaf, by another way."""
    found = re.fullmatch(rf"{PATH} (?:in|wish) (.*)", text, re.DOTALL)
    if found and is_told(found[1]):
        return True
    found = re.fullmatch(rf"{PATH} only((?: [a-z]+)*)", text)
    if found:
        names = found[1].split()
        return names == sorted(set(names))
    return re.fullmatch(rf"{PATH} = {PATH}(?: [+-] [1-9][0-9]{{0,39}})?", text) is not None


class Kinds(unittest.TestCase):
    def each(self, things, answer):
        for thing in things:
            self.assertIs(is_telling(thing), answer, repr(thing))

    def test_tellings(self):
        self.each([telling for text, telling in WRITTEN], True)
        self.each([(word, path, some) for word in ("in", "wish") for path in ((), ("a",), DEEP)
                   for some in some_sets()], True)
        self.each([("same", one, other, step) for one in ((), ("a",), DEEP) for other in ((), ("b",), ("a", "b", "c"))
                   for step in (0, 1, -1, 3, BIG, -BIG, 10 ** 50)], True)
        sixty = tuple(sorted(map("".join, itertools.product("abcd", "abcdefghijklmno"))))
        self.each([("only", DEEP[:length], names) for length in range(5)
                   for names in ((), ("a",), ("a", "b"), ("a", "aa", "b"), sixty)], True)

    def test_no_tellings(self):
        self.each((
            (), ("in",), ("in", ("a",)), ("in", ("a",), ONE, ONE), ("in", ("a",), ONE, 0), ("same", ("a",), ("b",)),
            ("same", ("a",), ("b",), 0, 0), ("same", ("a",), 0), ("only", ("a",)), ("only", ("a",), ("a",), ("b",)),
            ("wish", ("a",)),
            ("wish", ("a",), ONE, ONE), ("In", ("a",), ONE), ("is", ("a",), ONE), ("", ("a",), ONE),
            ("sames", ("a",), ("b",), 0),
            ("in", ("b",), ("a",), 0), ("same", ("a",), ONE), ("only", ("a",), ONE), ("in", ("a",), ()),
            ("wish", ("a",), ("a",)),
            ("same", ("a",), ("b",), True), ("same", ("a",), ("b",), False), ("same", ("a",), ("b",), "1"),
            ("same", ("a",), ("b",), None),
            ("in", "a", ONE), ("in", "", ONE), ("in", ["a"], ONE), ("in", None, ONE), ("in", ("",), ONE),
            ("in", ("A",), ONE),
            ("in", ("a", 1), ONE), ("in", ("a", ("b",)), ONE), ("in", ("a.b",), ONE), ("in", ("a ",), ONE),
            ("in", DEEP + ("e",), ONE),
            ("same", DEEP + ("e",), ("a",), 0), ("same", ("a",), DEEP + ("e",), 0), ("only", DEEP + ("e",), ()),
            ("wish", DEEP + ("e",), ONE),
            ("same", "a", ("b",), 0), ("same", ("a",), "b", 0), ("same", ("a",), ["b"], 0), ("same", ("a",), ("B",), 0),
            ("only", ("a",), "b"), ("only", ("a",), ["b"]), ("only", ("a",), None), ("only", ("a",), ("b", "a")),
            ("only", ("a",), ("b", "b")),
            ("only", ("a",), ("aa", "a")), ("only", ("a",), ("",)), ("only", ("a",), ("B",)),
            ("only", ("a",), ("a", 1)), ("only", "", ()),
            ("in", ("a",), "nothing"), ("in", ("a",), None), ("in", ("a",), number(2, 1)), ("in", ("a",), [ONE]),
            ("in", ("a",), 1),
            ("in", ("a",), raw(((1, 2), (3, 4)))), ("in", ("a",), records(("a", False, "any"), more="any")),
            ("wish", ("a",), 1),
            ["in", ("a",), ONE], "a in 1", (("in", ("a",), ONE),), ("in", ("a",), ("list", ())), {"in": 1},
        ), False)

    def test_of_anything(self):
        self.each(odd_things() + list(some_values()) + list(some_sets()), False)
        for thing in odd_things():
            self.each((
                (thing, ("a",), ONE), ("in", thing, ONE), ("in", (thing,), ONE), ("in", ("a", thing), ONE),
                ("in", ("a",), thing),
                ("in", ("a",), lists(thing)), ("in", ("a",), records(("a", thing, ONE))), ("wish", thing, ONE),
                ("wish", ("a",), thing),
                ("same", thing, ("a",), 0), ("same", ("a",), thing, 0), ("same", ("a",), (thing,), 0),
                ("same", ("a",), ("a",), thing),
                (thing, ("a",), ("a",), 0), ("only", thing, ()), ("only", ("a",), thing), ("only", ("a",), (thing,)),
                ("only", ("a",), ("a", thing)), (thing, thing, thing), ("in", ("a",), ONE, thing), (thing,),
            ), False)

    def test_of_great_depth(self):
        some = ONE
        for _ in range(3000):
            some = lists(some)
        for telling in (("in", ("a",), some), ("wish", (), some)):
            self.assertIs(is_telling(telling), True)
        deep = ()
        for _ in range(100000):
            deep = (deep,)
        for thing in (("in", ("a",), deep), ("in", deep, ONE), ("only", ("a",), deep), deep):
            self.assertIs(is_telling(thing), False)


class Fulfilled(unittest.TestCase):
    INNER = a_record(
        a=1, b=a_record(a=1, b="x", c=a_record(d=a_list(1))), c=True, d=a_record(), e=a_list(a_record(a=1)),
    )

    def test_at_path(self):
        for path, found in (
            ((), (self.INNER,)), (("a",), (1,)), (("b",), (a_record(a=1, b="x", c=a_record(d=a_list(1))),)),
            (("b", "a"), (1,)),
            (("b", "b"), ("x",)), (("b", "c", "d"), (a_list(1),)), (("b", "c"), (a_record(d=a_list(1)),)),
            (("c",), (True,)),
            (("d",), (a_record(),)), (("e",), (a_list(a_record(a=1)),)), (("f",), ()), (("a", "a"), ()),
            (("b", "d"), ()),
            (("b", "b", "x"), ()), (("c", "a"), ()), (("d", "a"), ()), (("e", "a"), ()), (("b", "c", "d", "a"), ()),
            (("ab",), ()),
        ):
            self.assertEqual(repr(at_path(self.INNER, path)), repr(found), path)

    def test_at_path_of_false_and_empty_things(self):
        value = a_record(a=0, b=False, c="", d=a_record(), e=a_list())
        for name, there in value[1]:
            self.assertEqual(repr(at_path(value, (name,))), repr((there,)))
        self.assertEqual(at_path(a_record(), ()), (a_record(),))
        self.assertEqual(at_path(a_record(), ("a",)), ())

    def each(self, answer, *texts):
        for text in texts:
            self.assertIs(fulfils(self.INNER, read_telling(text)), answer, text)
            self.assertIs(obeys(self.INNER, read_telling(text)), answer, text)

    def test_in(self):
        self.each(
            True,
            "a in 1", "a in number", ". in any", ". in {.. any}", "b.b in text", "c in true", "d in {}",
            "e in [.. any]", "b.c.d in [1]", "b in {a: 1, .. any}", "b.c in {d: [.. 1]}", "b.a in 1 or text",
        )
        self.each(
            False,
            "a in 2", "a in true", "a in text", "c in 1", ". in {}", ". in nothing", ". in number", "f in any",
            "a.a in any", "f in nothing", "b.d in any", "e.a in any", "b in {a: 1}", "d in [] or number",
            "d in {a: any, .. any}", "a in nothing",
        )

    def test_same(self):
        self.each(True, "a = a", "a = b.a", "b.a = a", ". = .", "b.c = b.c", "e = e")
        self.each(
            False,
            "a = c", "c = a", "a = b", "a = f", "f = a", "f = f", ". = a", "b = b.c", "d = e", "a.a = a.a", "d = b.c",
            "b.b = a",
        )

    def test_same_and_a_number(self):
        self.each(
            False,
            "a = b.a + 1", "a = a + 1", "a = c + 1", "b.b = b.b + 1", "a = f + 1", "f = a + 1", "f = f + 1",
            "b = b + 1", "c = c - 1", "c = a + 1", "c = c + 1", ". = . + 1", "a = c - 1",
        )
        value = a_record(a=5, b=2, c=-3, d=True, e="e")
        for text, answer in (
            ("a = b + 3", True), ("b = a - 3", True), ("b = a + 3", False), ("a = b - 3", False), ("a = b + 2", False),
            ("a = b", False),
            ("a = c + 8", True), ("c = b - 5", True), ("b = d + 1", False), ("d = b - 1", False), ("a = e + 1", False),
            ("a = a", True),
            ("c = a - 8", True), ("c = a - 7", False),
        ):
            self.assertIs(fulfils(value, read_telling(text)), answer, text)
        self.assertIs(fulfils(a_record(a=10 ** 40, b=10 ** 40 - 1), read_telling("a = b + 1")), True)

    def test_only(self):
        self.each(True, ". only a b c d e", ". only a b c d e f", "b only a b c", "d only", "d only a b", "b.c only d")
        self.each(
            False,
            ". only", ". only a b c d", "b only a c", "a only", "c only a", "e only", "e only a", "f only", "f only a",
            "b.c only", "a only a b c d e", "b.a only", "b.b only",
        )

    def test_wish(self):
        self.each(
            True,
            "a wish 1", "a wish 2", "a wish nothing", ". wish nothing", "b.c.d wish 7", "c wish text", "d wish any",
            "e wish 1",
        )
        self.each(False, "f wish any", "a.a wish any", "f wish nothing", "b.d wish 1", "d.a wish any", "e.a wish any")

    def test_by_a_second_way(self):
        values = [value for value in some_values() if isinstance(value, tuple) and value[0] == "record"]
        paths = ((), ("a",), ("b",), ("x",), ("a", "a"), ("q",))
        tellings = [("in", path, some) for path in paths for some in some_sets()]
        tellings += [("wish", path, NONE) for path in paths]
        tellings += [("same", one, other, step) for one in paths for other in paths for step in (-1, 0, 1, 4)]
        tellings += [("only", path, names) for path in paths
                     for names in ((), ("a",), ("a", "x"), ("a", "b", "x"), ("q",))]
        for value in values:
            for path in paths:
                self.assertEqual(repr(list(at_path(value, path))), repr(value_there(value, path)))
            for telling in tellings:
                self.assertIs(fulfils(value, telling), obeys(value, telling), (value, telling))

    def test_what_is_handed_in_stays(self):
        for text, telling in WRITTEN:
            kept = copy.deepcopy((self.INNER, telling))
            fulfils(self.INNER, telling)
            at_path(self.INNER, telling[1])
            self.assertEqual((self.INNER, telling), kept)


class Written(unittest.TestCase):
    def test_written_and_read(self):
        for text, telling in WRITTEN:
            self.assertEqual(show_telling(telling), text)
            self.assertEqual(repr(read_telling(text)), repr(telling), text)
            self.assertIs(is_written(text), True, text)

    def test_all_sets(self):
        for some in some_sets():
            for telling in (("in", ("a", "b"), some), ("wish", (), some)):
                self.assertEqual(repr(read_telling(show_telling(telling))), repr(telling))

    def test_freely(self):
        for text, written in FREELY:
            self.assertEqual(show_telling(read_telling(text)), written, text)
            self.assertEqual(read_telling(text), read_telling(written), text)
            self.assertIs(is_telling(read_telling(text)), True, text)

    def test_paths_of_any_length(self):
        for one in (DEEP[:length] for length in range(5)):
            for other in (DEEP[:length] for length in range(5)):
                for telling in (
                    ("same", one, other, 0), ("same", one, other, 7), ("same", one, other, -7), ("only", one, other),
                    ("in", one, ONE), ("wish", other, ONE),
                ):
                    self.assertEqual(read_telling(show_telling(telling)), telling)

    def test_a_deep_set(self):
        text = "a in " + "[" * 19 + "1" + "]" * 19
        self.assertEqual(show_telling(read_telling(text)), text)
        self.assertEqual(read_telling(text)[2], read_set(text[len("a in "):]))

    def test_long(self):
        words = ["".join(letters) for letters in itertools.product("abcdefghijklmnopqrstuvwxyz", repeat=3)]
        self.assertEqual(read_telling("a only " + " ".join(words)), ("only", ("a",), tuple(words)))
        self.assertEqual(read_telling("a in " + " or ".join([str(2 * place) for place in range(10000)]))[2],
                         raw(tuple([(2 * place, 2 * place) for place in range(10000)])))
        self.assertEqual(read_telling("a" * 90000 + " only")[1], ("a" * 90000,))


class Refused(unittest.TestCase):
    def refuses(self, text):
        try:
            telling = read_telling(text)
        except NoTelling as fault:
            self.assertIsInstance(fault, MeetError)
            self.assertIsInstance(fault, ValueError)
            self.assertNotIsInstance(fault, (NoValue, NoSet, NoNumber, NoRow))
            return
        self.fail(f"{ascii(text[:80])} is read as {telling!r}")

    def test_refused(self):
        for text in REFUSED:
            self.refuses(text)

    def told_apart(self, text):
        if is_written(text):
            telling = read_telling(text)
            self.assertIs(is_telling(telling), True, text)
            self.assertEqual(read_telling(show_telling(telling)), telling, text)
        else:
            self.refuses(text)

    def test_changed_by_one_sign(self):
        signs = ' .,:?"()[]{}-+=aAz01\n'
        seen = {}
        for text, _ in WRITTEN + FREELY:
            for place in range(len(text) + 1):
                seen[text[:place] + text[place + 1:]] = True
                for sign in signs:
                    seen[text[:place] + sign + text[place:]] = True
                    seen[text[:place] + sign + text[place + 1:]] = True
        for text in seen:
            if len(text) < 60:
                self.told_apart(text)

    def test_all_short_texts(self):
        pieces = ("a", ".", " ", " in ", " wish ", " only", " = ", " + ", " - ", "1", "b", "any", "0", "nothing")
        for length in range(5):
            for some in itertools.product(pieces, repeat=length):
                self.told_apart("".join(some))

    def test_short_texts_behind_a_beginning(self):
        pieces = ("a", ".", " ", "b", " + ", " - ", "1", "0", "-", "..", " or ")
        for start in ("a = ", "a = b", ". only", "a.b.c.d in ", "a.b.c"):
            for length in range(4):
                for some in itertools.product(pieces, repeat=length):
                    self.told_apart(start + "".join(some))

    def test_long_and_wrong(self):
        for text in ("a" * 100000, "a." * 50000, "." * 100000, "a in " + "[" * 90000, "a = b + " + "9" * 90000,
            "a only" + " a" * 40000,
                     "a only" + " " * 90000, " " * 100000, "a in " + "1 or " * 19000, "a in " + "(" * 90000):
            self.refuses(text)


if __name__ == "__main__":
    unittest.main()
