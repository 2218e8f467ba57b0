"""Promises 1, 2, 16 and 17: within, the first value, and how many there are."""

import copy
import random
import unittest

from allmeet.meets import join, meet
from allmeet.sets import ANY, NOTHING, set_of
from allmeet.values import ahead, is_value
from allmeet.within import first_value, how_many, is_within, outside
from things import (
    FULL, NONE, NUMBERS, TEXTS, TRUTHS, a_list, a_record, has, lists, number, raw, records, some_sets, some_values,
    texts_but, texts_of,
)

BIG = 10 ** 20
ZERO = number(0, 0)
ONE = number(1, 1)
TEXT = texts_of("a")
LETTERS = "abcdefghijklmnopqrstuvwxyz"

# Two sets of which the one lies within the other, and not the other way round.
SMALLER = (
    (NOTHING, ZERO), (NOTHING, ANY), (ZERO, ANY), (FULL[:4] + (None,), ANY), (ZERO, number(0, 1)),
    (ZERO, number(None, 0)),
    (number(3, 5), number(3, None)), (number(3, None), NUMBERS), (raw(((1, 1), (3, 3))), number(1, 3)),
    (raw(((1, 1), (3, 3))), raw(((None, 1), (3, None)))), (number(None, -BIG), NUMBERS), (number(-BIG, BIG), NUMBERS),
    (TEXT, texts_of("a", "b")), (TEXT, TEXTS), (TEXT, texts_but("b")), (texts_but("a", "b"), texts_but("a")),
    (texts_but("a"), TEXTS), (raw(truths=(True,)), TRUTHS),
    (raw(truths=(False,)), raw(((0, 1),), truths=(False, True))),
    (lists(), lists(more=ZERO)), (lists(ZERO), lists(more=ZERO)), (lists(ZERO), lists(ZERO, more="any")),
    (lists(ZERO, ONE), lists(ZERO, more=ONE)), (lists(ZERO, ONE), lists(more=number(0, 1))),
    (lists(ZERO), lists("any")),
    (lists("any", "any", more="any"), lists("any", more="any")), (lists("any", more="any"), lists(more="any")),
    (lists(ZERO, more=ZERO), lists(more=ZERO)), (lists(lists(ZERO)), lists(lists(more=ZERO))),
    (records(), records(("a", False, ZERO))), (records(("a", True, ZERO)), records(("a", False, ZERO))),
    (records(), records(more=ZERO)), (records(("a", True, ZERO)), records(more=ZERO)),
    (records(("a", True, ZERO), more="any"), records(more="any")),
    (records(more=ZERO), records(("a", False, "any"), more=ZERO)),
    (records(("a", False, NONE), more="any"), records(more="any")),
    (records(("a", True, ZERO)), records(("a", True, "any"))),
    (records(("a", True, ZERO), ("b", True, ONE)), records(("a", True, ZERO), more=ONE)),
    (records(("a", True, records())), records(("a", True, records(more="any")))),
    (lists(records(("a", True, ZERO)), more=lists()), lists(records(more=NUMBERS), more=lists(more=TEXTS))),
)

# Two sets of which neither lies within the other.
APART = (
    (ZERO, ONE), (number(0, 5), number(3, 9)), (number(None, 3), number(0, None)), (ZERO, TEXT), (NUMBERS, TEXTS),
    (texts_but("a"), texts_but("b")), (TEXT, texts_but("a")), (raw(truths=(True,)), raw(truths=(False,))),
    (TRUTHS, ONE),
    (lists(), lists(ZERO)), (lists(ZERO), lists(ONE)), (lists(ZERO, ZERO), lists(ZERO)),
    (lists(more=ZERO), lists(more=ONE)),
    (lists(more=ZERO), lists(ONE, more="any")), (lists(ZERO, ONE), lists(more=ZERO)), (lists(ZERO), records()),
    (lists("any", more=ZERO), lists(ZERO, more="any")), (lists(ZERO, more=ONE), lists(more=ZERO)),
    (records(), records(("a", True, ZERO))), (records(("a", True, ZERO)), records(("b", True, ZERO))),
    (records(more=ZERO), records(more=ONE)), (records(("a", False, ZERO)), records(("a", False, ONE))),
    (records(("a", False, NONE), more="any"), records(("b", False, NONE), more="any")),
    (records(("a", True, "any"), more=ZERO), records(("a", False, ZERO), more="any")),
    (records(*[(letter, False, NONE) for letter in LETTERS], more=ZERO),
     records(*[(letter, False, NONE) for letter in LETTERS], more=ONE)),
)


class Outside(unittest.TestCase):
    def shows(self, one, other):
        value = outside(one, other)
        self.assertIsNotNone(value, (one, other))
        self.assertIs(is_value(value), True, value)
        self.assertIs(has(one, value), True, (one, other, value))
        self.assertIs(has(other, value), False, (one, other, value))
        self.assertIs(is_within(one, other), False)
        self.assertEqual(repr(outside(copy.deepcopy(one), copy.deepcopy(other))), repr(value))

    def lies(self, one, other):
        self.assertIsNone(outside(one, other), (one, other))
        self.assertIs(is_within(one, other), True)

    def test_smaller(self):
        for one, other in SMALLER:
            self.lies(one, other)
            self.shows(other, one)
            for wrap in (lambda some: lists(ONE, more=some), lambda some: records(more=some),
                         lambda some: records(("a", True, ONE), ("b", False, some), more=lists(ONE, TEXT))):
                self.lies(wrap(one), wrap(other))
                self.shows(wrap(other), wrap(one))
            if one != NOTHING:
                self.lies(lists(one), lists(other))
                self.shows(records(("b", True, other)), records(("b", True, one)))

    def test_apart(self):
        for one, other in APART:
            self.shows(one, other)
            self.shows(other, one)
            self.shows(lists(one), lists(other))
            self.shows(records(("z", True, one)), records(("z", True, other)))
            self.shows(records(("z", False, one)), records(("z", False, other)))

    def test_a_set_lies_within_itself(self):
        for some in some_sets():
            self.lies(some, copy.deepcopy(some))
            self.lies(some, ANY)
            self.lies(NOTHING, some)

    def test_all_pairs(self):
        values = some_values()
        held = {some: [has(some, value) for value in values] for some in some_sets()}
        for one in some_sets():
            for other in some_sets():
                kept = copy.deepcopy((one, other))
                if meet(one, other) == one:
                    self.lies(one, other)
                    self.assertTrue(all([b or not a for a, b in zip(held[one], held[other])]), (one, other))
                    self.assertEqual(join(one, other), other)
                else:
                    self.shows(one, other)
                self.assertEqual((one, other), kept)

    def test_by_chance(self):
        chance = random.Random(7)
        for _ in range(3000):
            one, other, third, fourth = [chance.choice(some_sets()) for _ in range(4)]
            left = join(meet(one, other), lists(more=third))
            right = join(meet(third, other), records(more=fourth))
            if meet(left, right) == left:
                self.lies(left, right)
            else:
                self.shows(left, right)
            self.lies(meet(left, right), right)
            self.lies(left, join(left, right))

    def test_an_untold_name(self):
        told = [(letter, False, NONE) for letter in LETTERS]
        self.shows(records(*told, more=NUMBERS), records(*told, more=ZERO))
        self.shows(records(("a", False, ZERO), more=ONE), records(("b", False, ONE), more=ZERO))
        must = (("a", True, ZERO), ("b", True, ZERO))
        self.shows(records(*must, more=ONE), records(*must))

    def test_deep(self):
        one, other = ZERO, number(0, 1)
        for deep in range(19):
            one = lists(one) if deep % 2 else records(("a", True, one))
            other = lists(other) if deep % 2 else records(("a", True, other))
        self.lies(one, other)
        self.shows(other, one)

    def test_values_alone(self):
        values = some_values()[::11]
        for one in values:
            for other in values:
                if repr(one) == repr(other):
                    self.lies(set_of(one), set_of(other))
                else:
                    self.assertEqual(repr(outside(set_of(one), set_of(other))), repr(one))


class First(unittest.TestCase):
    def test_first(self):
        for some, value in (
            (ANY, 0), (NUMBERS, 0), (ZERO, 0), (number(3, 9), 3), (number(3, None), 3), (number(None, -3), -3),
            (number(-9, -3), -3), (number(-5, 5), 0), (number(None, 0), 0), (number(None, 7), 0), (number(-1, None), 0),
            (raw(((-1, -1), (1, 1))), 1), (raw(((-1, -1), (2, 2))), -1), (raw(((None, -2), (2, None))), 2),
            (raw(((None, -2), (3, None))), -2), (raw(((-9, -7), (-5, -4), (6, 7))), -4), (number(BIG, None), BIG),
            (raw(((-9, -7), (4, 4), (6, 7))), 4), (number(None, -BIG), -BIG), (raw(((None, -1), (1, None))), 1),
            (TEXTS, ""), (texts_of("b", "aa"), "b"), (texts_of("", "b"), ""), (texts_but("a"), ""),
            (texts_but(""), "a"),
            (texts_but("", "b"), "a"), (texts_but("", "a"), "b"), (texts_but("", "a", "b", "d"), "c"),
            (texts_but("", *LETTERS), "aa"), (texts_but("", *LETTERS, "aa", "ab"), "ac"),
            (texts_but("", *LETTERS[1:]), "a"),
            (texts_but("", *LETTERS[:25]), "z"), (texts_but("", *LETTERS, *["a" + last for last in LETTERS]), "ba"),
            (texts_but("", *LETTERS, *[one + other for one in LETTERS for other in LETTERS]), "aaa"),
            (TRUTHS, False), (raw(truths=(True,)), True), (raw(truths=(False,)), False),
            (raw((), ("of", ("z",)), (False,)), "z"),
            (raw(((-7, -7),), ("but", ()), (False, True)), -7), (raw((), ("but", ()), (False, True), ((), "any")), ""),
            (lists(), a_list()), (lists(more="any"), a_list()), (lists("any", more="any"), a_list(0)),
            (lists(TEXTS, number(None, -4), more=ZERO), a_list("", -4)), (lists(lists(TEXT)), a_list(a_list("a"))),
            (raw(truths=(True,), lists=((), NONE)), True), (raw(lists=((ZERO,), NONE), records=((), "any")), a_list(0)),
            (records(), a_record()), (records(more="any"), a_record()), (records(("a", False, ZERO)), a_record()),
            (records(("a", True, TEXTS), ("b", False, ZERO), ("c", True, number(4, 5)), more="any"),
             a_record(a="", c=4)),
            (records(("a", True, records(("b", True, TEXT)))), a_record(a=a_record(b="a"))),
        ):
            self.assertEqual(repr(first_value(some)), repr(value), some)
        self.assertIsNone(first_value(NOTHING))

    def test_none_is_ahead_of_it(self):
        for some in some_sets():
            first = first_value(some)
            if some != NOTHING:
                self.assertIs(is_value(first) and has(some, first), True, some)
                for value in some_values():
                    self.assertFalse(has(some, value) and ahead(value, first), (some, value, first))

    def test_of_one_value(self):
        for value in some_values():
            self.assertEqual(repr(first_value(set_of(value))), repr(value))


class HowMany(unittest.TestCase):
    def test_how_many(self):
        for some, many in (
            (NOTHING, 0), (ANY, None), (ZERO, 1), (number(3, 5), 3), (raw(((-2, 2), (5, 6))), 7),
            (number(3, None), None),
            (number(None, 3), None), (NUMBERS, None), (raw(((None, 1), (3, 4))), None),
            (number(-BIG, BIG), 2 * BIG + 1),
            (raw(((1, 2), (4, None))), None), (texts_of("a", "b", "aa"), 3), (TEXTS, None), (texts_but("a"), None),
            (TRUTHS, 2), (raw(truths=(True,)), 1), (raw(((1, 3),), ("of", ("a",)), (False, True)), 6), (lists(), 1),
            (lists(more=ZERO), None), (lists(ZERO, more=ZERO), None), (lists(number(1, 3), TRUTHS), 6),
            (lists(NUMBERS), None),
            (lists(number(1, 3), TEXTS), None), (lists("any"), None), (lists(lists(TRUTHS, TRUTHS), TRUTHS), 8),
            (records(), 1), (records(more=ZERO), None), (records(("a", True, TRUTHS)), 2),
            (records(("a", False, TRUTHS)), 3),
            (records(("a", True, TRUTHS), ("b", False, ZERO), ("c", False, number(1, 4))), 20),
            (records(("a", False, TEXTS)), None), (records(("a", True, TEXTS)), None),
            (records(("a", False, NONE), more=ZERO), None),
            (records(("a", True, ZERO), more="any"), None), (records(("a", False, records(("a", False, ZERO)))), 3),
            (raw(lists=((), NONE), records=((), NONE)), 2),
            (raw(((1, 2),), lists=((TRUTHS,), NONE), records=((), NONE)), 5),
            (raw(((1, 2),), lists=((), ZERO)), None), (raw(((1, 2),), ("of", ("a",)), records=((), ZERO)), None),
            (lists(*[number(1, 10)] * 16), 10 ** 16), (FULL[:1] + NONE[1:], None), (NONE[:2] + FULL[2:3] + NONE[3:], 2),
        ):
            self.assertEqual(how_many(some), many, some)
            self.assertNotIsInstance(how_many(some), bool)

    def test_by_counting(self):
        leaf = raw(((0, 1), (5, 5)), ("of", ("a",)), (True,))
        found = {repr(value): value for value in some_values()}
        for some in (
            leaf, lists(leaf), lists(leaf, leaf), records(("a", True, leaf)),
            records(("a", False, leaf), ("x", True, leaf)),
            records(("a", False, leaf), ("b", False, ZERO), ("x", False, leaf)),
            lists(lists(), raw(lists=((), NONE), records=((), NONE))),
            raw(leaf[0], leaf[1], leaf[2], ((leaf,), NONE), ((("b", False, leaf),), NONE)),
        ):
            self.assertEqual(how_many(some), len([value for value in found.values() if has(some, value)]), some)

    def test_of_one_value(self):
        for value in some_values():
            self.assertEqual(how_many(set_of(value)), 1)

    def test_a_join_and_a_meet_of_leaves(self):
        leaves = [some for some in some_sets() if some != ANY and some[3] is None and some[4] is None]
        for one in leaves:
            for other in leaves:
                counts = [how_many(some) for some in (one, other, meet(one, other), join(one, other))]
                if None not in counts:
                    self.assertEqual(counts[0] + counts[1], counts[2] + counts[3])


if __name__ == "__main__":
    unittest.main()
