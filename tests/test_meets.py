"""Promises 1, 2 and 12 to 15: meets and joins."""

import copy
import random
import unittest

from allmeet.meets import join, meet
from allmeet.sets import ANY, NOTHING, is_set, lies_in, set_of, stretch
from allmeet.within import is_within
from things import (
    FULL, NONE, NUMBERS, TEXTS, TRUTHS, lists, number, raw, records, some_sets, some_values, texts_but, texts_of,
)

BIG = 10 ** 20
ZERO = number(0, 0)
ONE = number(1, 1)
BOTH = number(0, 1)
TEXT = texts_of("a")

# Two sets, their meet and their join.
LEAVES = (
    (ZERO, ONE, NONE, BOTH), (number(None, 5), number(3, None), number(3, 5), NUMBERS),
    (number(None, 3), number(5, None), NONE, raw(((None, 3), (5, None)))),
    (number(None, 3), number(4, None), NONE, NUMBERS),
    (raw(((1, 1), (3, 3))), number(2, 2), NONE, number(1, 3)), (number(-BIG, BIG), NUMBERS, number(-BIG, BIG), NUMBERS),
    (texts_of("a", "b"), texts_of("b", "aa"), texts_of("b"), texts_of("a", "b", "aa")),
    (texts_of("a", "b"), texts_but("b", "c"), texts_of("a"), texts_but("c")),
    (texts_but("a"), texts_but("b"), texts_but("a", "b"), TEXTS), (TEXTS, texts_of("x"), texts_of("x"), TEXTS),
    (raw(truths=(True,)), raw(truths=(False,)), NONE, TRUTHS),
    (raw(truths=(True,)), TRUTHS, raw(truths=(True,)), TRUTHS),
    (ZERO, TEXTS, NONE, raw(((0, 0),), ("but", ()))), (TRUTHS, BOTH, NONE, raw(((0, 1),), truths=(False, True))),
    (raw(((0, 4),), ("of", ("a",)), (True,)), raw(((3, 9),), ("but", ("a",)), (False, True)),
     raw(((3, 4),), truths=(True,)), raw(((0, 9),), ("but", ()), (False, True))),
)
LISTS = (
    (lists(), lists(), lists(), lists()), (lists(), lists(ZERO), NONE, lists(more=ZERO)),
    (lists(ZERO), lists(ONE), NONE, lists(BOTH)), (lists(ZERO, ONE), lists(ONE, ZERO), NONE, lists(BOTH, BOTH)),
    (lists(ZERO), lists(ZERO, ONE), NONE, lists(ZERO, more=ONE)),
    (lists(ZERO), lists(ONE, TEXT, ZERO), NONE, lists(BOTH, more=raw(((0, 0),), ("of", ("a",))))),
    (lists(more=ZERO), lists(more=ONE), lists(), lists(more=BOTH)),
    (lists(more=ZERO), lists(BOTH, number(0, 5)), lists(ZERO, ZERO), lists(more=number(0, 5))),
    (lists(more=ZERO), lists(BOTH, number(1, 5)), NONE, lists(more=number(0, 5))),
    (lists(ZERO, more=TEXT), lists("any", "any", "any"), lists(ZERO, TEXT, TEXT), lists("any", more="any")),
    (lists(ZERO, more=TEXT), lists("any", "any", more=TRUTHS), lists(ZERO, TEXT), lists("any", more="any")),
    (lists("any", more="any"), lists(), NONE, lists(more="any")),
    (lists(lists(ZERO)), lists(lists(ONE), more="any"), NONE, lists(lists(BOTH), more="any")),
    (lists(lists(more=ZERO)), lists(lists(more=ONE)), lists(lists()), lists(lists(more=BOTH))),
    (lists(ZERO), records(), NONE, raw(lists=((ZERO,), NONE), records=((), NONE))),
)
RECORDS = (
    (records(), records(), records(), records()), (records(), records(("a", True, ZERO)), NONE,
     records(("a", False, ZERO))),
    (records(("a", True, ZERO)), records(("a", True, ONE)), NONE, records(("a", True, BOTH))),
    (records(("a", False, ZERO)), records(("a", False, ONE)), records(), records(("a", False, BOTH))),
    (records(("a", False, ZERO)), records(("a", True, BOTH)), records(("a", True, ZERO)), records(("a", False, BOTH))),
    (records(("a", True, ZERO)), records(("b", True, ONE)), NONE, records(("a", False, ZERO), ("b", False, ONE))),
    (records(("a", True, ZERO), more="any"), records(("b", True, ONE), more="any"),
     records(("a", True, ZERO), ("b", True, ONE), more="any"), records(more="any")),
    (records(("a", True, ZERO), more=ONE), records(("b", True, ONE), more=ZERO),
     records(("a", True, ZERO), ("b", True, ONE)), records(("a", False, ZERO), ("b", False, ONE), more=BOTH)),
    (records(("a", False, ONE), more=ZERO), records(("a", False, ZERO), more=ONE), records(), records(more=BOTH)),
    (records(("a", True, "any"), more="any"), records(("a", False, NONE), more="any"), NONE, records(more="any")),
    (records(("a", False, NONE), more="any"), records(more=ZERO), records(("a", False, NONE), more=ZERO),
     records(("a", False, ZERO), more="any")),
    (records(("a", False, NONE), more="any"), records(("b", False, NONE), more="any"),
     records(("a", False, NONE), ("b", False, NONE), more="any"), records(more="any")),
    (records(("a", False, NONE), more="any"), records(), records(), records(("a", False, NONE), more="any")),
    (records(("a", True, lists(ZERO))), records(("a", True, lists(ONE))), NONE, records(("a", True, lists(BOTH)))),
    (records(("a", False, lists(ZERO))), records(("a", False, lists(ONE))), records(),
     records(("a", False, lists(BOTH)))),
    (records(more=records(("a", True, ZERO))), records(more=records()), records(),
     records(more=records(("a", False, ZERO)))),
)


def mixed_sets(chance, deep):
    """A set by chance, made by meets and joins alone of what has the one form."""
    some = chance.choice(some_sets())
    for _ in range(chance.randrange(4)):
        other = mixed_sets(chance, deep - 1) if deep else chance.choice(some_sets())
        if chance.randrange(3) == 0:
            other = lists(other, more=some) if other != NONE else lists(more=some)
        elif chance.randrange(3) == 0 and other != NONE:
            other = records(("a", True, other), more=some)
        some = chance.choice((join, join, meet))(some, other)
    return some


class Tables(unittest.TestCase):
    def test_what_is_told(self):
        for one, other, both, either in LEAVES + LISTS + RECORDS:
            self.assertEqual(meet(one, other), both, (one, other))
            self.assertEqual(meet(other, one), both, (one, other))
            self.assertEqual(join(one, other), either, (one, other))
            self.assertEqual(join(other, one), either, (one, other))

    def test_the_same_within_a_list_and_a_record(self):
        for one, other, both, either in LEAVES + LISTS + RECORDS:
            self.assertEqual(meet(lists(one), lists(other)), NONE if both == NONE else lists(both))
            self.assertEqual(join(lists(more=one), lists(more=other)), lists(more=either))
            self.assertEqual(meet(lists(more=one), lists(more=other)), lists(more=both))
            self.assertEqual(join(records(("a", True, one)), records(("a", True, other))), records(("a", True, either)))
            self.assertEqual(meet(records(("a", True, one)), records(("a", True, other))),
                             NONE if both == NONE else records(("a", True, both)))

    def test_joins_come_to_any(self):
        self.assertEqual(join(FULL[:4] + (None,), records(more="any")), "any")
        self.assertEqual(join(FULL[:3] + (None, FULL[4]), lists(more="any")), "any")
        self.assertEqual(join((((None, 0), (2, None)),) + FULL[1:], ONE), "any")
        self.assertEqual(join(FULL[:1] + (("but", ("a",)),) + FULL[2:], TEXT), "any")
        self.assertEqual(join(FULL[:2] + ((False,),) + FULL[3:], raw(truths=(True,))), "any")
        self.assertEqual(join(FULL[:3] + ((("any",), "any"),) + FULL[4:], lists()), "any")
        self.assertEqual(join(lists(FULL[:4] + (None,)), lists(records(more="any"))), lists("any"))

    def test_any_and_nothing(self):
        for some in some_sets():
            self.assertEqual(meet(some, ANY), some)
            self.assertEqual(meet(ANY, some), some)
            self.assertEqual(meet(some, NOTHING), NOTHING)
            self.assertEqual(meet(NOTHING, some), NOTHING)
            self.assertEqual(join(some, NOTHING), some)
            self.assertEqual(join(NOTHING, some), some)
            self.assertEqual(join(some, ANY), ANY)
            self.assertEqual(join(ANY, some), ANY)
            self.assertEqual(meet(some, some), some)
            self.assertEqual(join(some, some), some)

    def test_what_is_handed_in_stays(self):
        for one, other, both, either in LISTS + RECORDS:
            kept = copy.deepcopy((one, other))
            meet(one, other)
            join(one, other)
            self.assertEqual((one, other), kept)

    def test_long_rows(self):
        evens = ("of", ())
        some = NOTHING
        for place in range(50):
            some = join(some, stretch(2 * place, 2 * place))
        self.assertEqual(some, raw(tuple([(2 * place, 2 * place) for place in range(50)]), evens))
        wide = records(*[(one + other, True, ZERO) for one in "abcd" for other in "abcdefghij"])
        self.assertEqual(join(wide, records()), records(*[(name, False, some) for name, must, some in wide[4][0]]))
        self.assertEqual(meet(wide, records(more=ZERO)), wide)
        self.assertEqual(join(lists(*[ZERO] * 16), lists(*[ONE] * 15)), lists(*[BOTH] * 15, more=ZERO))

    def test_deep(self):
        one, other = ZERO, ONE
        for deep in range(19):
            one = lists(one) if deep % 2 else records(("a", True, one))
            other = lists(other) if deep % 2 else records(("a", True, other))
        self.assertEqual(meet(one, other), NOTHING)
        self.assertIs(is_set(join(one, other)), True)
        self.assertEqual(meet(join(one, other), one), one)


class AllPairs(unittest.TestCase):
    def test_by_their_values(self):
        values = some_values()[::2]
        held = {some: [lies_in(value, some) for value in values] for some in some_sets()}
        for one in some_sets():
            for other in some_sets():
                both = meet(one, other)
                either = join(one, other)
                self.assertIs(is_set(both) and is_set(either), True, (one, other))
                if both not in held:
                    held[both] = [lies_in(value, both) for value in values]
                if either not in held:
                    held[either] = [lies_in(value, either) for value in values]
                self.assertEqual(held[both], [a and b for a, b in zip(held[one], held[other])], (one, other))
                self.assertTrue(all([h or not (a or b) for h, a, b in zip(held[either], held[one], held[other])]))

    def test_orders(self):
        for one in some_sets():
            for other in some_sets():
                self.assertEqual(meet(one, other), meet(other, one))
                self.assertEqual(join(one, other), join(other, one))
                self.assertEqual(meet(one, join(one, other)), one)
                self.assertEqual(join(one, meet(one, other)), one)

    def test_a_join_is_the_least(self):
        above = {one: [some for some in some_sets() if is_within(one, some)] for one in some_sets()}
        for one in some_sets():
            for other in some_sets():
                either = join(one, other)
                self.assertIs(is_within(one, either) and is_within(other, either), True)
                for some in above[one]:
                    if some in above[other]:
                        self.assertIs(is_within(either, some), True, (one, other, some))

    def test_groupings(self):
        chance = random.Random(5)
        for _ in range(4000):
            one, other, third = [chance.choice(some_sets()) for _ in range(3)]
            self.assertEqual(meet(meet(one, other), third), meet(one, meet(other, third)))
            self.assertEqual(join(join(one, other), third), join(one, join(other, third)))

    def test_by_chance(self):
        chance = random.Random(6)
        values = some_values()
        for _ in range(600):
            one, other, third = [mixed_sets(chance, 1) for _ in range(3)]
            both, either = meet(one, other), join(one, other)
            self.assertIs(is_set(one) and is_set(both) and is_set(either), True)
            self.assertEqual(meet(both, third), meet(one, meet(other, third)))
            self.assertEqual(join(either, third), join(one, join(other, third)))
            self.assertEqual(meet(one, either), one)
            self.assertEqual(join(other, both), other)
            for value in chance.sample(values, 40):
                self.assertIs(lies_in(value, both), lies_in(value, one) and lies_in(value, other))
                if lies_in(value, one) or lies_in(value, other):
                    self.assertIs(lies_in(value, either), True)

    def test_a_join_of_values(self):
        values = some_values()[::9]
        for one in values:
            for other in values:
                either = join(set_of(one), set_of(other))
                for some in some_sets():
                    if lies_in(one, some) and lies_in(other, some):
                        self.assertIs(is_within(either, some), True, (one, other, some))


if __name__ == "__main__":
    unittest.main()
