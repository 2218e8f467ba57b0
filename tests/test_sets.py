"""Promises 1, 7 to 11: what is a set, what lies in it, and how sets are made."""

import copy
import itertools
import unittest

from allmeet.sets import ANY, NOTHING, is_set, kind_set, lies_in, made, set_of, stretch
from allmeet.values import is_value
from things import (
    FULL, NONE, NUMBERS, TEXTS, TRUTHS, a_list, a_record, has, lists, number, odd_things, raw, records, some_sets,
    some_values, texts_but, texts_of,
)

BIG = 10 ** 20
ZERO = number(0, 0)


class Forms(unittest.TestCase):
    def each(self, things, answer):
        for thing in things:
            self.assertIs(is_set(thing), answer, repr(thing))

    def test_any_and_nothing(self):
        self.assertEqual(ANY, "any")
        self.assertEqual(NOTHING, ((), ("of", ()), (), None, None))
        self.each((ANY, NOTHING), True)
        self.each((FULL, "nothing", "Any", "any ", "", "an", "number", ("any",), ["any"], b"any"), False)

    def test_sets(self):
        self.each(some_sets(), True)
        self.each((
            raw(((1, 2), (4, None)), ("but", ("b", "aa")), (False, True)), number(-BIG, BIG), texts_of("", "a"),
            lists(*["any"] * 16), lists(*[ZERO] * 40, more=ZERO), lists("any", more="any"), lists(TEXTS),
            records(*[("a" * k, True, ZERO) for k in range(1, 9)]), records(("a", True, ZERO), ("aa", False, ZERO)),
            records(*[(one + other, False, ZERO) for one in "abcd" for other in "abcdefghij"], more="any"),
        ), True)

    def test_all_parts_are_any_only_if_all_are_full(self):
        for small in (NONE, (((1, 1),), ("of", ("a",)), (True,), ((), NONE), ((), NONE))):
            self.each([FULL[:place] + (small[place],) + FULL[place + 1:] for place in range(5)], True)
        self.each((lists(FULL), lists(more=FULL), records(("a", True, FULL)), records(more=FULL)), False)

    def test_no_sets_by_their_parts(self):
        self.each((
            number(2, 1), raw(((1, 2), (3, 4))), raw(((True, True),)), raw([]), raw(None),
            raw(((1, 2),), ("of", ["a"])),
            texts_of("b", "a"), texts_of("a", "a"), texts_of("A"), raw((), ("any", ())), raw((), None), raw((), ()),
            raw(truths=(True, False)), raw(truths=(1,)), raw(truths=(0, 1)), raw(truths=None), raw(truths=[]),
            raw(lists=()), raw(lists=((),)), raw(lists=((), NONE, NONE)), raw(lists=[(), NONE]), raw(lists=([], NONE)),
            raw(lists=((), None)), raw(lists=(None, NONE)), raw(lists=False), raw(lists=0), raw(lists="any"),
            raw(lists=(("any", "anything"), NONE)), raw(lists=("any", "any")), raw(lists=(NONE, ())),
            raw(lists=((), 1)),
            raw(lists=((1,), NONE)), raw(lists=((None,), NONE)), raw(lists=(((),), NONE)),
            raw(lists=((["any"],), NONE)),
            raw(records=()), raw(records=((),)), raw(records=((), NONE, NONE)), raw(records=[(), NONE]),
            raw(records=([], NONE)), raw(records=((), None)), raw(records=(None, "any")), raw(records=False),
            raw(records="any"), raw(records=("", "any")), raw(records=("any", "any")),
        ), False)

    def test_no_sets_by_their_fields(self):
        self.each([raw(records=((field,), "any")) for field in (
            (), ("a",), ("a", True), ("a", True, ZERO, ZERO), ["a", True, ZERO], ("a", 1, ZERO), ("a", 0, ZERO),
            ("a", None, ZERO), ("a", "must", ZERO), ("", True, ZERO), ("A", True, ZERO), ("a b", True, ZERO),
            ("a1", True, ZERO), (1, True, ZERO), (None, True, ZERO), (("a",), True, ZERO), (True, "a", ZERO),
            ("a", True, None), ("a", True, 0), ("a", True, ("list", ())), ("a", False, ()), "abc", None, 1,
        )], False)
        self.each((
            records(("b", True, ZERO), ("a", True, ZERO)), records(("a", True, ZERO), ("a", True, ZERO)),
            records(("a", True, ZERO), ("a", False, ZERO)), records(("aa", True, ZERO), ("a", True, ZERO)),
            records(("b", True, ZERO), ("aa", True, ZERO)),
            records(("a", True, ZERO), ("c", True, ZERO), ("b", True, ZERO)),
        ), False)

    def test_nothing_at_a_front_or_a_must_field(self):
        self.each((
            lists(NONE), lists(ZERO, NONE), lists(NONE, ZERO, more="any"), lists(lists(NONE)), lists(more=lists(NONE)),
            records(("a", True, NONE)), records(("a", True, NONE), more="any"),
            records(("a", True, ZERO), ("b", True, NONE)),
            records(("a", True, records(("a", True, NONE)))), raw(((1, 1),), lists=((NONE,), "any")),
            raw(((1, 1),), records=((("a", True, NONE),), "any")),
        ), False)
        self.each((lists(ZERO), lists(more=ZERO), records(("a", False, NONE), more=ZERO)), True)

    def test_a_field_as_more_tells(self):
        for some in (
            "any", NONE, ZERO, NUMBERS, lists(), lists(ZERO, more="any"), records(("a", True, ZERO), more="any"),
        ):
            same = copy.deepcopy(some)
            self.each((
                records(("a", False, same), more=some), records(("a", True, ZERO), ("b", False, same), more=some),
                lists(records(("a", False, same), more=some)),
            ), False)
            self.each([records(("a", True, same), more=some)], some != NONE)
        self.each((
            records(("a", False, ZERO), more=number(0, 1)), records(("a", False, NONE), more="any"),
            records(("a", False, lists(ZERO)), more=lists(ZERO, ZERO)),
            records(("a", False, lists(ZERO, more=ZERO)), more=lists(ZERO, ZERO, more=ZERO)),
            records(("a", False, records(("a", True, ZERO), more=ZERO)), more=records(more=ZERO)),
            records(("a", False, records(("a", True, ZERO))), more=records(("a", False, ZERO))),
            records(("a", False, records(("a", True, ZERO))), more=records(("b", True, ZERO))),
            records(("a", False, lists(more=ZERO)), more=lists(more=number(1, 1))),
        ), True)

    def test_no_sets_by_kind(self):
        self.each((
            0, 1, True, False, "a", (), ("any",), ("list", ()), ("record", ()), ("of", ()), NONE[:4], NONE + (None,),
            list(NONE), (NONE,), ((), (), (), (), ()), (None,) * 5, ("any",) * 5, NONE[1:] + NONE[:1], (NONE,) * 5,
        ), False)

    def test_of_anything(self):
        for thing in odd_things():
            places = [
                thing, (thing,), (thing,) * 5, lists(thing), lists(more=thing), lists("any", thing),
                raw(lists=(thing, NONE)),
                records(("a", True, thing)), records(("a", False, thing), more=thing), records(("a", thing, ZERO)),
                records((thing, True, ZERO)), records(thing), records(more=thing), raw(records=(thing, NONE)),
                records(("a", False, thing), more=ZERO), records(("a", False, ZERO), more=thing), lists(lists(thing)),
                records(("a", True, ZERO), thing), (thing,) + FULL[1:], FULL[:1] + (thing,) + FULL[2:],
                FULL[:2] + (thing,) + FULL[3:],
            ]
            if thing is not None:
                places.extend([FULL[:3] + (thing, None), FULL[:4] + (thing,), NONE[:3] + (thing, thing)])
            for place in places:
                self.assertIs(is_set(place), False)

    def test_of_any_depth(self):
        for wrap in (
            lambda some: lists(some), lambda some: lists(more=some), lambda some: records(("a", True, some)),
            lambda some: records(more=some), lambda some: records(("a", False, some)),
        ):
            good, bad = ZERO, ("list", ())
            for _ in range(5000):
                good, bad = wrap(good), wrap(bad)
            self.assertIs(is_set(good), True)
            self.assertIs(is_set(bad), False)
            self.assertIs(is_set(lists(good, NONE)), False)
            self.assertIs(is_set(wrap(wrap(lists(NONE)))), False)

    def test_a_deep_field_as_more_tells(self):
        one, same, other = ZERO, number(0, 0), number(1, 1)
        for _ in range(5000):
            one, same, other = lists("any", one), lists("any", same), lists("any", other)
        self.assertIs(is_set(records(("a", False, one), more=same)), False)
        self.assertIs(is_set(records(("a", False, one), more=other)), True)
        self.assertIs(is_set(records(("a", False, one), more=one[3][0][1])), True)
        self.assertIs(is_set(records(("a", True, one), more=same)), True)


class OneForm(unittest.TestCase):
    """Of all the tuples that tell the same values just one is a set, and made tells it."""

    INNER = (NONE, ZERO, NUMBERS, "any")
    VALUES = (0, 1, "x")

    def raw_lists(self, inner):
        for length in range(3):
            for fronts in itertools.product(inner, repeat=length):
                for more in inner:
                    yield fronts, more

    def raw_records(self, inner):
        fields = [None] + [(must, some) for must in (False, True) for some in inner]
        for one, other, more in itertools.product(fields, fields, inner):
            told = [(name, *field) for name, field in (("a", one), ("b", other)) if field is not None]
            yield tuple(told), more

    def values(self):
        found = [0, 5, "", "a", False, True]
        for length in range(4):
            found.extend(("list", values) for values in itertools.product(self.VALUES, repeat=length))
        for values in itertools.product((None,) + self.VALUES, repeat=3):
            found.append(("record", tuple((name, value) for name, value in zip("abc", values) if value is not None)))
        return found

    def by_values(self, some_raws):
        values = self.values()
        found = {}
        for some in some_raws:
            found.setdefault(tuple([has(some, value) for value in values]), []).append(some)
        return found

    def check(self, some_raws):
        for told in self.by_values(some_raws).values():
            sets = [some for some in told if is_set(some)]
            self.assertEqual(len(sets), 1, told)
            for some in told:
                if some != "any" and FULL not in [part for kind in some[3:] if kind for part in self.inner(kind)]:
                    self.assertEqual(made(*some), sets[0], some)

    def inner(self, kind):
        return [part[2] if len(part) == 3 else part for part in kind[0]] + [kind[1]]

    def test_lists(self):
        inner = self.INNER + (FULL,)
        self.check([NONE] + [raw(lists=part) for part in self.raw_lists(inner)])
        parts = [None] + list(self.raw_lists(inner))
        self.check(["any"] + [FULL[:3] + (part,) + FULL[4:] for part in parts])

    def test_records(self):
        self.check([NONE] + [raw(records=part) for part in self.raw_records(self.INNER)])
        self.check(["any", FULL[:4] + (None,)] + [FULL[:4] + (part,) for part in self.raw_records(self.INNER)])
        self.check([NONE] + [raw(records=part) for part in self.raw_records((NONE, ZERO, "any", FULL))])

    def test_both(self):
        small = (NONE, ZERO, "any")
        some_lists = [None] + [part for part in self.raw_lists(small) if len(part[0]) < 2]
        some_records = [None] + [part for part in self.raw_records(small) if len(part[0]) < 2]
        self.check([raw(lists=one, records=other) for one in some_lists for other in some_records])


class Made(unittest.TestCase):
    def test_in_form_already(self):
        for some in some_sets():
            self.assertEqual(made(*(FULL if some == "any" else some)), some)

    def test_nothing_within(self):
        self.assertEqual(made((), ("of", ()), (), ((NONE,), "any"), None), NOTHING)
        self.assertEqual(made((), ("of", ()), (), None, ((("a", True, NONE),), "any")), NOTHING)
        self.assertEqual(
            made(((1, 1),), ("of", ()), (), ((ZERO, NONE), "any"), ((("a", True, NONE),), NONE)), number(1, 1))
        self.assertEqual(made((), ("of", ()), (), None, ((("a", False, NONE),), NONE)), records())
        self.assertEqual(
            made((), ("of", ()), (), None, ((("a", False, NONE),), ZERO)), records(("a", False, NONE), more=ZERO))

    def test_what_more_tells_already(self):
        fields = (("a", False, ZERO), ("b", True, ZERO), ("c", False, NUMBERS), ("d", False, ZERO))
        self.assertEqual(made((), ("of", ()), (), None, (fields, ZERO)),
                         records(("b", True, ZERO), ("c", False, NUMBERS), more=ZERO))

    def test_all_of_any(self):
        self.assertEqual(made(*FULL), "any")
        self.assertEqual(made(*FULL[:4], ((("a", False, "any"),), "any")), "any")
        self.assertEqual(made(*FULL[:4], None), FULL[:4] + (None,))


class LiesIn(unittest.TestCase):
    def test_numbers(self):
        some = raw(((None, -3), (0, 0), (4, 6), (9, None)))
        for value in range(-6, 13):
            self.assertIs(lies_in(value, some), value <= -3 or value == 0 or 4 <= value <= 6 or value >= 9, value)
        self.assertIs(lies_in(BIG, some), True)
        self.assertIs(lies_in(-BIG, some), True)

    def test_a_truth_is_no_number(self):
        for truth in (False, True):
            self.assertIs(lies_in(truth, NUMBERS), False)
            self.assertIs(lies_in(truth, TRUTHS), True)
            self.assertIs(lies_in(truth, raw(truths=(truth,))), True)
            self.assertIs(lies_in(truth, raw(truths=(not truth,))), False)
            self.assertIs(lies_in(int(truth), TRUTHS), False)
            self.assertIs(lies_in(a_list(truth), lists(number(0, 1))), False)

    def test_texts(self):
        for value, told in (("a", True), ("b", False), ("", False), ("aa", True)):
            self.assertIs(lies_in(value, texts_of("a", "aa")), told)
            self.assertIs(lies_in(value, texts_but("a", "aa")), not told)
        self.assertIs(lies_in("any", NOTHING), False)

    def test_lists(self):
        some = lists(ZERO, TEXTS, more=TRUTHS)
        for values, told in (
            ((), False), ((0,), False), ((0, ""), True), ((0, "a", True), True), ((0, "a", True, False), True),
            ((1, "a"), False),
            ((0, 0), False), ((0, "a", 1), False), ((0, "a", True, 1), False), (("a", 0), False),
        ):
            self.assertIs(lies_in(("list", values), some), told, values)
        self.assertIs(lies_in(a_list(0, 0), lists(ZERO)), False)
        self.assertIs(lies_in(a_list(), records(more="any")), False)

    def test_records(self):
        some = records(("a", True, ZERO), ("b", False, TEXTS), ("c", False, NONE), more=TRUTHS)
        for value, told in (
            (a_record(), False), (a_record(a=0), True), (a_record(a=1), False), (a_record(a=0, b="x"), True),
            (a_record(a=0, b=1), False), (a_record(b="x"), False), (a_record(a=0, c=True), False),
            (a_record(a=0, x=True), True), (a_record(a=0, x=1), False), (a_record(a=0, b="", x=True, y=False), True),
        ):
            self.assertIs(lies_in(value, some), told, value)
        self.assertIs(lies_in(a_record(), lists(more="any")), False)

    def test_any_and_nothing(self):
        for value in some_values():
            self.assertIs(lies_in(value, ANY), True)
            self.assertIs(lies_in(value, NOTHING), False)

    def test_all_pairs(self):
        for some in some_sets():
            kept = copy.deepcopy(some)
            for value in some_values():
                self.assertIs(lies_in(value, some), has(some, value), (value, some))
            self.assertEqual(some, kept)

    def test_deep(self):
        value, some, off = 5, number(5, 5), number(6, 6)
        for deep in range(19):
            value = a_list(0, value) if deep % 2 else a_record(a=value)
            some = lists(ZERO, some) if deep % 2 else records(("a", True, some), more="any")
            off = lists(ZERO, off) if deep % 2 else records(("a", True, off), more="any")
        self.assertIs(lies_in(value, some), True)
        self.assertIs(lies_in(value, off), False)


class Making(unittest.TestCase):
    def test_of_one_value(self):
        for value, some in (
            (0, ZERO), (-BIG, number(-BIG, -BIG)), ("", texts_of("")), ("abc", texts_of("abc")),
            (True, raw(truths=(True,))),
            (False, raw(truths=(False,))), (a_list(), lists()), (a_record(), records()),
            (a_list(0, True), lists(ZERO, raw(truths=(True,)))), (a_record(a=0), records(("a", True, ZERO))),
            (a_record(a=a_list(a_record(b="x"))), records(("a", True, lists(records(("b", True, texts_of("x"))))))),
        ):
            self.assertEqual(set_of(value), some)
        self.assertIs(set_of(True)[2][0], True)

    def test_it_alone(self):
        values = some_values()
        for value in values[::7]:
            some = set_of(value)
            self.assertIs(is_set(some), True)
            for other in values:
                self.assertIs(lies_in(other, some), repr(other) == repr(value), (value, other))

    def test_kinds(self):
        for kind, some in (
            ("number", NUMBERS), ("text", TEXTS), ("truth", TRUTHS), ("list", lists(more="any")),
            ("record", records(more="any")),
        ):
            self.assertEqual(kind_set(kind), some)
            self.assertIs(is_set(kind_set(kind)), True)

    def test_stretches(self):
        for low, high, some in (
            (3, 5, number(3, 5)), (3, 3, number(3, 3)), (None, 5, number(None, 5)), (3, None, number(3, None)),
            (None, None, NUMBERS), (5, 3, NOTHING), (0, -1, NOTHING), (-5, -3, number(-5, -3)),
            (0, None, number(0, None)),
            (None, 0, number(None, 0)), (-BIG, BIG, number(-BIG, BIG)), (BIG, -BIG, NOTHING),
        ):
            self.assertEqual(stretch(low, high), some)
            self.assertIs(is_set(stretch(low, high)), True)

    def test_values_are_values(self):
        for value in some_values():
            self.assertIs(is_value(value), True)


if __name__ == "__main__":
    unittest.main()
