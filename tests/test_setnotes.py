"""Promises 1, 18 and 19: how a set is written and read, and what is refused."""

import itertools
import re
import unittest

from allmeet.errors import MeetError, NoNumber, NoRow, NoSet, NoTelling, NoValue
from allmeet.meets import join
from allmeet.setnotes import read_set, show_set
from allmeet.sets import is_set, set_of
from allmeet.valuenotes import show_value
from things import (
    NONE, NUMBERS, TEXTS, TRUTHS, is_told, lists, number, raw, records, some_sets, some_values, texts_but, texts_of,
)

BIG = 10 ** 20
FORTY = "1234567890" * 4
ZERO = number(0, 0)
FALSE = raw(truths=(False,))

# Every text beside the one set that it writes.
WRITTEN = (
    ("any", "any"), ("nothing", NONE), ("3", number(3, 3)), ("3..5", number(3, 5)), ("..5", number(None, 5)),
    ("3..", number(3, None)), ("number", NUMBERS), ("0", ZERO), ("-3", number(-3, -3)), ("-5..-3", number(-5, -3)),
    ("..-3", number(None, -3)), ("-3..", number(-3, None)), ("0..", number(0, None)), ("..0", number(None, 0)),
    ("-1..0", number(-1, 0)), ("1 or 3", raw(((1, 1), (3, 3)))), ("..-1 or 1..", raw(((None, -1), (1, None)))),
    ("..0 or 2..3 or 5 or 7..", raw(((None, 0), (2, 3), (5, 5), (7, None)))), ("-1 or 1", raw(((-1, -1), (1, 1)))),
    ("-100000000000000000000..100000000000000000000", number(-BIG, BIG)), (FORTY, number(int(FORTY), int(FORTY))),
    ("-" + FORTY + ".." + FORTY, number(-int(FORTY), int(FORTY))),
    ('""', texts_of("")), ('"a"', texts_of("a")), ('"" or "b" or "aa"', texts_of("", "b", "aa")), ("text", TEXTS),
    ('text but "a" "b"', texts_but("a", "b")), ('text but ""', texts_but("")),
    ('text but "" "b" "aa"', texts_but("", "b", "aa")),
    ('"any"', texts_of("any")), ('"or"', texts_of("or")), ("true", raw(truths=(True,))), ("false", FALSE),
    ("truth", TRUTHS),
    ("[]", lists()), ("{}", records()), ("[.. 5]", lists(more=number(5, 5))), ("[.. any]", lists(more="any")),
    ('[3, (4 or "a"), .. any]', lists(number(3, 3), raw(((4, 4),), ("of", ("a",))), more="any")),
    ("{a: 1, b?: text, .. any}", records(("a", True, number(1, 1)), ("b", False, TEXTS), more="any")),
    ("[..5]", lists(number(None, 5))), ("[.. ..5]", lists(more=number(None, 5))), ("[3.., .. 3..]", lists(
        number(3, None), more=number(3, None))), ("[3..]", lists(number(3, None))),
        ("[..5, ..5]", lists(*[number(None, 5)] * 2)),
    ("[any]", lists("any")), ("[0, any, text]", lists(ZERO, "any", TEXTS)), ("[[]]", lists(lists())),
    ("[{}]", lists(records())),
    ("[.. (1 or 3)]", lists(more=raw(((1, 1), (3, 3))))), ('[text but "a" "b"]', lists(texts_but("a", "b"))),
    ('[(text but "a" "b" or truth), .. text but "c"]',
     lists(raw((), ("but", ("a", "b")), (False, True)), more=texts_but("c"))),
    ("[[.. any], .. {.. any}]", lists(lists(more="any"), more=records(more="any"))), ("[([] or {})]", lists(
        raw(lists=((), NONE), records=((), NONE)))), ("{.. any}", records(more="any")), ("{.. 0}", records(more=ZERO)),
    ("{a: 0}", records(("a", True, ZERO))), ("{a?: 0}", records(("a", False, ZERO))),
    ("{a: any}", records(("a", True, "any"))),
    ("{a: any, .. any}", records(("a", True, "any"), more="any")),
    ("{a?: nothing, .. any}", records(("a", False, NONE), more="any")),
    ("{a: 0, .. 0}", records(("a", True, ZERO), more=ZERO)), ("{a?: (0 or true), aa: {b?: []}, b?: ..0}", records(
        ("a", False, raw(((0, 0),), truths=(True,))), ("aa", True, records(("b", False, lists()))),
        ("b", False, number(None, 0)))),
    ("{any: any, nothing?: any, or: 0, text?: text}", records(
        ("any", True, "any"), ("nothing", False, "any"), ("or", True, ZERO), ("text", False, TEXTS))),
    ("{abcdefgh: 0}", records(("abcdefgh", True, ZERO))),
    ('1 or 3.. or "a" or "b" or false or [0] or {a: 0}', raw(
        ((1, 1), (3, None)), ("of", ("a", "b")), (False,), ((ZERO,), NONE), ((("a", True, ZERO),), NONE))),
    ("number or text or truth", raw(((None, None),), ("but", ()), (False, True))),
    ("number or text or truth or [.. any]", raw(((None, None),), ("but", ()), (False, True), ((), "any"))),
    ('text but "a" or [.. any] or {.. any}', raw((), ("but", ("a",)), (), ((), "any"), ((), "any"))),
    ("number or text or truth or [.. any] or {a: any, .. any}", raw(
        ((None, None),), ("but", ()), (False, True), ((), "any"), ((("a", True, "any"),), "any"))),
)

# Texts that are read, beside the one that writes the same set.
FREELY = (
    ("3..3", "3"), ("-3..-3", "-3"), ("0..0", "0"), ("[3..3]", "[3]"), ("3 or 3", "3"), ("3 or 1", "1 or 3"),
    ("1 or 2", "1..2"),
    ("5 or 3..4 or 1", "1 or 3..5"), ("1.. or ..0", "number"), ("1.. or ..5", "number"), ("number or 3", "number"),
    ("3 or number", "number"), ("number or number", "number"), ("..3 or ..5", "..5"), ("3..9 or 4..5", "3..9"),
    ('"b" or "a"', '"a" or "b"'), ('"aa" or "b" or "aa"', '"b" or "aa"'), ('"a" or text', "text"),
    ("text or text", "text"),
    ('"a" or text but "a"', "text"), ('"b" or text but "a"', 'text but "a"'), ('text but "a" or text but "b"', "text"),
    ('text but "a" "b" or text but "b" "c"', 'text but "b"'), ('text but "b" "a"', 'text but "a" "b"'),
    ('text but "a" "a"', 'text but "a"'), ('text but "aa" "b" "" "b" "aa"', 'text but "" "b" "aa"'),
    ('text but "b" "a" or "a"', 'text but "b"'), ("true or false", "truth"), ("false or true", "truth"),
    ("true or true", "true"), ("truth or false", "truth"), ("truth or truth", "truth"),
    ("true or 1", "1 or true"), ("{} or [] or true or \"a\" or 1", '1 or "a" or true or [] or {}'),
    ("[] or []", "[]"), ("[1] or [2]", "[1..2]"), ("[] or [1]", "[.. 1]"), ("[1] or [2, \"a\"]", '[1..2, .. "a"]'),
    ("[.. any] or []", "[.. any]"), ("{} or {a: 1}", "{a?: 1}"), ("{a: 1} or {b: 1}", "{a?: 1, b?: 1}"),
    ("{a: 1} or {a: 3}", "{a: (1 or 3)}"), ("{a: 1, .. any} or {.. any}", "{.. any}"),
    ("{b: 1, a: 2}", "{a: 2, b: 1}"), ("{b?: 1, aa: 2, a: 3}", "{a: 3, aa: 2, b?: 1}"),
    ("{a?: any, .. any}", "{.. any}"),
    ("{b?: any, a: any, .. any}", "{a: any, .. any}"), ("{a?: (1 or 2), .. 1..2}", "{.. 1..2}"),
    ("{a?: nothing}", "{}"),
    ("{a?: nothing, .. nothing}", "{}"), ("{a?: nothing, b: 1}", "{b: 1}"), ("{.. nothing}", "{}"),
    ("[.. nothing]", "[]"),
    ("[1, .. nothing]", "[1]"), ("{a: 1, .. nothing}", "{a: 1}"), ("[nothing]", "nothing"), ("[1, nothing]", "nothing"),
    ("[nothing, .. any]", "nothing"), ("{a: nothing}", "nothing"), ("{a: nothing, .. any}", "nothing"),
    ("{a: 1, b: nothing}", "nothing"), ("[[nothing]]", "nothing"), ("[{a: nothing}]", "nothing"),
    ("[.. [nothing]]", "[]"),
    ("{a: [nothing]}", "nothing"), ("{a?: [nothing]}", "{}"), ("{a?: [nothing], .. 1}", "{a?: nothing, .. 1}"),
    ("[nothing] or 3", "3"), ("3 or {a: nothing} or [nothing]", "3"), ("[nothing] or [nothing]", "nothing"),
    ("[(1 or 1)]", "[1]"), ("[(1 or 2)]", "[1..2]"), ("[([nothing] or 1)]", "[1]"),
    ("[([nothing] or [nothing])]", "nothing"),
    ("[.. (1 or 2 or 3)]", "[.. 1..3]"), ("{a: (true or false)}", "{a: truth}"),
    ("{a?: (text or \"a\")}", "{a?: text}"),
    ("number or text or truth or [.. any] or {.. any}", "any"),
    ("{.. any} or truth or [.. any] or text or 1.. or ..0", "any"),
    ("[(number or text or truth or [.. any] or {.. any}), .. any]", "[any, .. any]"),
    ("{a?: (number or text or truth or [.. any] or {.. any}), .. any}", "{.. any}"),
)

REFUSED = (
    "", " ", "\n", "a", "x", "anything", "Any", "ANY", "any ", " any", "any\n", "anyany", "an", "nothin", "nothing ",
    "Nothing",
    "any or 1", "1 or any", "any or any", "nothing or 1", "1 or nothing", "nothing or nothing", "any or nothing",
    "numbers", "Number", "number ", "texts", "truths", "list", "record", "[list]", "true ", "True", "tru", "falsee",
    "none", "None",
    "5..3", "0..-1", "-3..-5", "[5..3]", "1 or 5..3", "..", "[..]", "{..}", "3...5", "3....5", "3.5", "3.", ".5",
    "...5", "3...",
    "3 ..5", "3.. 5", "3 .. 5", ".. 5", "3..5..7", "..5..", "3..-", "3..a", "-..3", "--3", "+3", "03", "-0", "00",
    "3..05", "03..5",
    "-0..3", "..-0", "3..-0", "1" * 41, "1.." + "1" * 41, "-" + "1" * 41, ".." + "1" * 41, "-" + "1" * 41 + "..",
    "[" + "1" * 41 + "]",
    "\u0663", "3..\u0665", "1e3", "1_0", "1,2", "1, 2", "1 2", "1  or 2", "1 or  2", "1or 2", "1 or2", "1 or", "or 1",
    " or 1",
    "1 or ", "1 or or 2", "1 Or 2", "1 or 2 ", "1|2", "1 or\n2", "1\tor 2", "1 and 2",
    '"', '"a', 'a"', "'a'", '"A"', '"a b"', '"a1"', '"a""b"', '"a" "b"', '"a", "b"', '"\u00e9"', '"a\n"', '" "', '"a"b',
    "text but", "text but ", 'text but"a"', 'text  but "a"', 'text but  "a"', 'text but "a"  "b"', 'text but "a", "b"',
    'text but "a" ', 'text but a', "text but 1", 'text but "a" or', 'text but "a" 1', 'text but text', 'but "a"',
    'text "a"',
    'text but "a" but "b"', 'text but "a""b"', 'number but 3', 'text but "A"', 'text but ("a")', 'Text but "a"',
    'textbut "a"',
    "(1)", "(1 or 2)", "()", "(any)", "(1 or 2) or 3", "1 or (2 or 3)", "[(1)]", "[()]", "[(any)]", "[(nothing)]",
    "[(any or 1)]",
    "[(1 or nothing)]", "[((1 or 2))]", "[(1 or (2 or 3))]", "[((1 or 2) or 3)]", "[1 or 2]", "[.. 1 or 2]",
    "{a: 1 or 2}",
    "{a?: 1 or 2}", "{.. 1 or 2}", "[(1 or 2]", "[1 or 2)]", "[( 1 or 2)]", "[(1 or 2 )]", "[(1 or 2) ]", "[(text)]",
    "[([])]",
    '[(text but "a" "b")]', "{a: (1)}", "{a: (any)}", "{(a: 1 or 2)}", "[(1 or 2) or 3]", "[(1, 2)]", "([1, 2])",
    "({})",
    "[", "]", "[]]", "[[]", "[ ]", "[1", "1]", "[1,2]", "[1,  2]", "[1 ,2]", "[ 1]", "[1 ]", "[1,]", "[1, ]", "[, 1]",
    "[,]", "[1;2]",
    "[1 2]", "[] []", "[][]", "[]or []", "[] or", "[.. ]", "[..  5]", "[.. 5, 3]", "[.. 5, .. 5]", "[.. any, ]",
    "[3 .. 5]",
    "[3, ..]", "[3, .. ]", "[3,.. 5]", "[3 .. any]", "[.. .. 5]", "[.., 3]", "[..any]", "[3, ..any]", "[any..]", "[1}",
    "[a: 1]",
    "[1?]", "[.. 5 ]", "[.. [5]", "[...5]", "[.. any any]",
    "{", "}", "{ }", "{}}", "{a}", "{a:}", "{a: }", "{a: 1", "{a:1}", "{a : 1}", "{a:  1}", "{ a: 1}", "{a: 1 }",
    "{a: 1,b: 2}",
    "{a: 1,}", "{a: 1, }", "{, a: 1}", "{1}", "{1: 1}", "{: 1}", "{?: 1}", "{a??: 1}", "{a ?: 1}", "{a? : 1}",
    "{a?:1}", "{a?}",
    "{a?1}", "{?a: 1}", "{a!: 1}", "{A: 1}", "{a1: 1}", "{a.b: 1}", '{"a": 1}', "{a_b: 1}", "{\u00e9: 1}", "{a: 1]",
    "{[]}",
    "{a: 1, a: 1}", "{a: 1, a: 2}", "{a: 1, a?: 1}", "{a?: 1, b: 1, a?: 1}", "{b: 1, a: 1, b: 2}",
    "{a?: any, a?: any, .. any}",
    "[{a: 1, a: 1}]", "{b: {a: 1, a: 1}}", "{.. any, a: 1}", "{.. any, .. any}", "{.. }", "{..any}", "{a: 1, ..any}",
    "{a: 1 .. any}",
    "{a: 1, ..}", "{.. a: 1}", "{a: .. 1}", "{a: 1; b: 2}", "{a: 1 b: 2}", "{a: 1, 2}", "{a = 1}", "{a: {b: 1}",
    "{a: b}",
    "#", "\\", "1#", "\0", "\ud800", "\ufeff1", "[1]\n", "1..2\n", "{a:\n1}", "[1,\n2]", "[1,\u00a02]", "any;",
    "1 or 2 or", "-", "?",
)


def wrapped(deep, leaf, way):
    text = leaf
    for number_of in range(deep):
        text = way[number_of % len(way)].replace("SET", text)
    return text


class Written(unittest.TestCase):
    def test_written_and_read(self):
        for text, some in WRITTEN:
            self.assertIs(is_set(some), True, text)
            self.assertEqual(show_set(some), text)
            self.assertEqual(read_set(text), some, text)

    def test_all_sets(self):
        for some in some_sets():
            self.assertEqual(read_set(show_set(some)), some)
            self.assertEqual(repr(read_set(show_set(some))), repr(some))

    def test_no_two_alike(self):
        self.assertEqual(len({show_set(some) for some in some_sets()}), len(some_sets()))

    def test_of_one_value(self):
        for value in some_values():
            self.assertEqual(show_set(set_of(value)), show_value(value))

    def test_freely(self):
        for text, written in FREELY:
            self.assertEqual(show_set(read_set(text)), written, text)
            self.assertEqual(read_set(text), read_set(written), text)
            self.assertIs(is_set(read_set(text)), True, text)

    def test_words_are_joined(self):
        words = [text for text, some in WRITTEN if " or " not in re.sub(r"\(.*?\)", "", text) and text not in ("any",
         "nothing")]
        for one, other in itertools.product(words, words):
            self.assertEqual(read_set(one + " or " + other), join(read_set(one), read_set(other)))
            self.assertEqual(read_set("[(" + one + " or " + other + ")]"), lists(join(read_set(one), read_set(other))))

    def test_fields_in_any_order(self):
        for fields in itertools.permutations(("a: 1", "b?: text", "c: [nothing, 1]", "d?: nothing", "aa?: 2")):
            self.assertEqual(read_set("{" + ", ".join(fields) + "}"), NONE)
            text = "{" + ", ".join(fields).replace("nothing, 1", "any") + ", .. 2}"
            self.assertEqual(show_set(read_set(text)), "{a: 1, b?: text, c: [any], d?: nothing, .. 2}")


class Refused(unittest.TestCase):
    def refuses(self, text):
        try:
            some = read_set(text)
        except NoSet as fault:
            self.assertIsInstance(fault, MeetError)
            self.assertIsInstance(fault, ValueError)
            self.assertNotIsInstance(fault, (NoValue, NoTelling, NoNumber, NoRow))
            return
        self.fail(f"{ascii(text[:80])} is read as {some!r}")

    def test_refused(self):
        for text in REFUSED:
            self.refuses(text)

    def test_refused_within(self):
        for text in REFUSED:
            if "," not in text and "(" not in text and text not in ("", "..", " "):
                for form in (
                    "[{}]", "[1, {}, .. any]", "{{a: {}}}", "{{a?: {}, .. any}}", "[(1 or {})]", "1 or {}", "[.. {}]",
                ):
                    if not is_told(form.format(text)):
                        self.refuses(form.format(text))

    def test_changed_by_one_sign(self):
        signs = ' .,:?"()[]{}-a01\n'
        texts = [text for text, some in WRITTEN + FREELY if len(text) < 30]
        seen = {}
        for text in texts:
            for place in range(len(text) + 1):
                seen[text[:place] + text[place + 1:]] = True
                for sign in signs:
                    seen[text[:place] + sign + text[place:]] = True
                    seen[text[:place] + sign + text[place + 1:]] = True
        for text in seen:
            self.told_apart(text)

    def told_apart(self, text):
        if is_told(text):
            some = read_set(text)
            self.assertIs(is_set(some), True, text)
            self.assertEqual(read_set(show_set(some)), some, text)
        else:
            self.refuses(text)

    def test_all_short_texts(self):
        pieces = ("1", "..", ".. ", " or ", "any", '"a"', "text", " but ", "[", "]", "(", ")", "{", "}", "a", ": ",
         "?", ", ", " ", "-", "nothing")
        for length in range(4):
            for some in itertools.product(pieces, repeat=length):
                self.told_apart("".join(some))

    def test_short_texts_within(self):
        pieces = ("1", "..", ".. ", " or ", "any", "(", ")", "a: ", "a?: ", "b: ", ", ", "nothing")
        for length in range(4):
            for some in itertools.product(pieces, repeat=length):
                for form in ("[{}]", "{{{}}}", "[(1 or {}]", "{{a: {}}}", "[.. {}]"):
                    self.told_apart(form.format("".join(some)))


class Deep(unittest.TestCase):
    WAYS = (("[SET]",), ("{a: SET}",), ("[.. SET]",), ("{.. SET}",), ("{a?: SET}", "[1, SET, .. any]"),
     ("[(SET or 1)]",), ("{a: (1 or SET)}", "[SET]"))

    def refuses(self, text):
        with self.assertRaises(NoSet):
            read_set(text)

    def test_twenty_within_one_another(self):
        for way in self.WAYS:
            for leaf in ("1", '"a"', "true", "number", "3..", 'text but "a"'):
                self.assertIs(is_set(read_set(wrapped(19, leaf, way))), True)
                self.refuses(wrapped(20, leaf, way))
            for leaf in ("[]", "{}"):
                some = read_set(wrapped(19, leaf, way))
                self.assertIs(is_set(some), True)
                self.assertEqual(read_set(show_set(some)), some)
                self.refuses(wrapped(20, leaf, way))

    def test_any_and_nothing_count(self):
        for way in (("[SET]",), ("{a: SET}",), ("[.. SET]",), ("{a?: SET}",)):
            for leaf in ("any", "nothing", "[.. 1]", "[.. nothing]", "{a?: nothing}"):
                inside = 19 if leaf[0] in "an" else 18
                self.assertIs(is_set(read_set(wrapped(inside, leaf, way))), True)
                self.refuses(wrapped(inside + 1, leaf, way))

    def test_brackets_are_not_counted(self):
        self.assertIs(is_set(read_set(wrapped(19, "1", ("[(SET or 1)]",)))), True)
        self.assertIs(is_set(read_set(wrapped(18, "(1 or 3)", ("[SET]",)).join(("[", "]")))), True)
        self.refuses(wrapped(20, "(1 or 3)", ("[SET]",)))

    def test_far_too_deep(self):
        self.refuses("[" * 50000 + "]" * 50000)
        self.refuses("[" * 100000)
        self.refuses("{a: " * 25000)
        self.refuses("[(" * 50000)
        self.refuses("(" * 100000)
        self.refuses("[.. " * 25000)


class Long(unittest.TestCase):
    def test_many_words(self):
        some = read_set(" or ".join([str(2 * place) for place in reversed(range(10000))]))
        self.assertEqual(some, raw(tuple([(2 * place, 2 * place) for place in range(10000)])))
        self.assertEqual(read_set(" or ".join([str(place) for place in range(10000)])), number(0, 9999))

    def test_many_texts(self):
        letters = "abcdefghijklmnopqrstuvwxyz"
        words = sorted([a + b + c for a in letters for b in letters for c in letters])[:12000]
        self.assertEqual(read_set(" or ".join([f'"{word}"' for word in reversed(words)])), texts_of(*words))
        self.assertEqual(read_set("text but " + " ".join([f'"{word}"' for word in reversed(words)])), texts_but(*words))
        fields = ", ".join([f"{word}: 0" for word in reversed(words)])
        self.assertEqual(read_set("{" + fields + "}"), records(*[(word, True, ZERO) for word in words]))

    def test_many_fronts(self):
        self.assertEqual(read_set("[" + ", ".join(["0"] * 30000) + "]"), lists(*[ZERO] * 30000))
        self.assertEqual(read_set("[] or [" + ", ".join([str(2 * place) for place in range(10000)]) + "]"),
                         lists(more=raw(tuple([(2 * place, 2 * place) for place in range(10000)]))))
        self.assertEqual(read_set(" or ".join(["[0]"] * 14000)), lists(ZERO))

    def test_long_and_wrong(self):
        for text in ("1" * 100000, "a" * 100000, '"' + "a" * 99999, " " * 100000, "[0" + ", 0" * 33000, "1 or " * 20000,
                     "1.." + "9" * 99997, 'text but' + ' "a"' * 24000 + " ", "{" + "a" * 99999, "." * 100000):
            with self.assertRaises(NoSet):
                read_set(text)


if __name__ == "__main__":
    unittest.main()
