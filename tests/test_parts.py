"""Promises 1 and 6: numbers, texts, truths, and what is told of them."""

import copy
import itertools
import unittest

from allmeet.parts import is_numbers, is_texts, is_truths, join_texts, meet_numbers, meet_texts, numbers_of
from things import odd_things

BIG = 10 ** 20


class Forms(unittest.TestCase):
    def each(self, asked, things, answer):
        for thing in things:
            self.assertIs(asked(thing), answer, repr(thing))

    def test_numbers(self):
        self.each(is_numbers, (
            (), ((0, 0),), ((1, 5),), ((-5, -1),), ((None, 5),), ((5, None),), ((None, None),), ((None, -1), (1, None)),
            ((1, 1), (3, 3)), ((1, 2), (4, 4), (6, 9)), ((-3, -3), (-1, 0), (2, None)), ((-BIG, BIG),),
            ((None, -BIG), (-BIG + 2, BIG - 2), (BIG, None)), ((-10 ** 60, 10 ** 60),),
            tuple([(2 * k, 2 * k) for k in range(200)]),
        ), True)

    def test_no_numbers(self):
        self.each(is_numbers, (
            ((5, 1),), ((1, 0),), ((0, -1),), ((1, 2), (3, 4)), ((1, 2), (2, 3)), ((1, 5), (2, 3)), ((1, 1), (1, 1)),
            ((4, 5), (1, 2)), ((None, 1), (2, None)), ((None, 1), (1, 2)), ((None, 1), (None, 5)), ((1, None), (3, 4)),
            ((1, None), (5, None)), ((None, None), (1, 2)), ((1, 2), (None, 5)), ((1, 2), (4, 5), (6, 7)),
            ((None, None), (None, None)), ((1, 2), (5, 4)), ((1, 2), (9, 9), (5, 5)), ((BIG, BIG), (BIG + 1, BIG + 1)),
        ), False)

    def test_no_numbers_by_kind(self):
        self.each(is_numbers, (
            1, True, "", "of", (1,), (1, 2), (None,), (None, None), ((),), ((1,),), ((1, 2, 3),), ([1, 2],), [(1, 2)],
            [], ((True, 2),), ((0, True),), ((False, False),), ((False, True),), ((None, True),), ((1, 2), (4, True)),
            (("a", "b"),), ("ab",), ((1, "a"),), (((1, 2),),), ((1, 2), None), (None, (1, 2)), ((1, 2), (4, 5), []),
            ("of", ()), ((1, (2,)),), {(1, 2): 1},
        ), False)

    def test_texts(self):
        self.each(is_texts, (
            ("of", ()), ("but", ()), ("of", ("",)), ("but", ("",)), ("of", ("a",)), ("of", ("", "a", "b", "aa", "ab")),
            ("but", ("z", "aa")), ("of", ("b", "aa", "ba", "aaa")), ("of", ("a" * 30, "b" * 30, "a" * 31)),
            ("of", ("of",)), ("but", ("of", "but")),
        ), True)

    def test_no_texts(self):
        self.each(is_texts, (
            ("of", ("aa", "b")), ("but", ("aa", "b")), ("of", ("b", "a")), ("of", ("a", "a")), ("but", ("a", "a")),
            ("of", ("a", "")), ("of", ("", "")), ("of", ("a", "c", "b")), ("of", ("A",)), ("of", ("a b",)),
            ("of", ("a1",)), ("of", ("\u00e9",)), ("of", ("a\n",)), ("of", ("a", "B")), ("of", "a"), ("of", ""),
            ("of", ["a"]), ("of", []), ["of", ()], ("of",), ("of", (), ()), ("Of", ()), ("all", ()), ("", ()), (),
            ("of", (1,)), ("of", (True,)), ("of", (None,)), ("of", ("a", 1)), ("of", (("a",),)), (("of", ()),),
            ("of", None), (1, ()), (True, ()), "of", "", "a", 1, True, ("a",), ("list", ()), ((), "of"), {"of": ()},
            ("of", {"a": 1}), (b"of", ()), ("but", (1,)), ("but", "ab"), ("but",), ("but", ["a"]),
        ), False)

    def test_truths(self):
        self.each(is_truths, ((), (False,), (True,), (False, True)), True)
        self.each(is_truths, (
            (True, False), (False, False), (True, True), (False, True, True), (False, False, True),
            (False, True, False), (0,), (1,), (0, 1), (False, 1), (0, True), (2,), [], [False], [False, True], False,
            True, 0, 1, "", "true", ("true",), ("",), (None,), (False, None), (None, True), ((),), ((False,),), {},
            ("of", ()), (None, None), {False, True},
        ), False)

    def test_of_anything(self):
        for asked in (is_numbers, is_texts, is_truths):
            for thing in odd_things():
                self.each(asked, (
                    thing, (thing,), (thing, thing), (thing, ()), ((thing, 1),), ((1, thing), (thing, 2)),
                    ((1, 2), thing), ("of", thing), ("but", thing), ("of", (thing,)), ("but", ("a", thing)),
                    ("of", (thing, thing)), (False, thing), (thing, True), ((thing,),),
                ) if thing is not None else (thing, (thing,), (thing, 1), ("of", thing), ("of", (thing,))), False)


EDGE = 4
POINTS = tuple(range(-1, EDGE + 2))


def covered(numbers):
    """Which points a tuple or list of stretches covers; the outermost two stand for all beyond them."""
    return tuple([
        any([(low is None or low <= point) and (high is None or point <= high) for low, high in numbers])
        for point in POINTS
    ])


def all_numbers():
    """Every numbers part whose ends lie from 0 to EDGE, by what it covers."""
    found = {}
    for marks in itertools.product((False, True), repeat=len(POINTS)):
        stretches = []
        for point, mark, before in zip(POINTS, marks, (False,) + marks):
            if mark and before:
                stretches[-1][1] = point
            elif mark:
                stretches.append([point, point])
        found[marks] = tuple([
            (None if low == POINTS[0] else low, None if high == POINTS[-1] else high) for low, high in stretches
        ])
    return found


class Numbers(unittest.TestCase):
    def told(self, pairs, numbers):
        for order in itertools.islice(itertools.permutations(pairs), 120):
            self.assertEqual(numbers_of(list(order)), numbers)
        self.assertIs(is_numbers(numbers_of(pairs)), True)

    def test_all_of_the_pairs_together(self):
        self.told([], ())
        self.told([(3, 3)], ((3, 3),))
        self.told([(1, 5)], ((1, 5),))
        self.told([(None, None)], ((None, None),))
        self.told([(1, 2), (5, 6)], ((1, 2), (5, 6)))
        self.told([(1, 2), (4, 5)], ((1, 2), (4, 5)))
        self.told([(-BIG, -BIG), (BIG, BIG)], ((-BIG, -BIG), (BIG, BIG)))

    def test_touching(self):
        self.told([(1, 2), (3, 4)], ((1, 4),))
        self.told([(1, 1), (2, 2), (3, 3), (5, 5)], ((1, 3), (5, 5)))
        self.told([(None, 0), (1, None)], ((None, None),))
        self.told([(None, 0), (2, None)], ((None, 0), (2, None)))
        self.told([(-1, -1), (0, 0), (1, 1)], ((-1, 1),))

    def test_one_over_the_other(self):
        self.told([(1, 5), (3, 8)], ((1, 8),))
        self.told([(1, 9), (3, 4)], ((1, 9),))
        self.told([(1, 9), (3, 4), (6, 7), (11, 12)], ((1, 9), (11, 12)))
        self.told([(1, 2), (1, 2)], ((1, 2),))
        self.told([(1, 2), (1, 5)], ((1, 5),))
        self.told([(1, 5), (5, 5)], ((1, 5),))

    def test_open_ends(self):
        self.told([(None, 5), (None, 2)], ((None, 5),))
        self.told([(5, None), (2, None)], ((2, None),))
        self.told([(3, None), (5, 6)], ((3, None),))
        self.told([(None, 3), (1, 2), (7, 9)], ((None, 3), (7, 9)))
        self.told([(None, None), (1, 2), (None, 0)], ((None, None),))
        self.told([(None, -3), (None, 2), (9, None), (4, None)], ((None, 2), (4, None)))

    def test_any_three_pairs(self):
        parts = all_numbers()
        ends = [None] + list(range(EDGE + 1))
        pairs = [pair for pair in itertools.product(ends, ends) if None in pair or pair[0] <= pair[1]]
        for some in itertools.product(pairs, repeat=3):
            self.assertEqual(numbers_of(list(some)), parts[covered(some)], some)

    def test_the_list_stays_and_is_not_kept(self):
        pairs = [(5, 6), (1, 2), (3, 3), (None, -4)]
        kept = copy.deepcopy(pairs)
        numbers = numbers_of(pairs)
        self.assertEqual(pairs, kept)
        pairs.append((None, None))
        pairs[0] = (100, 200)
        self.assertEqual(numbers, ((None, -4), (1, 3), (5, 6)))
        self.assertEqual(numbers_of(kept), numbers)

    def test_many_pairs(self):
        self.assertEqual(numbers_of([(3 * k, 3 * k + 1) for k in reversed(range(63))]),
                         tuple([(3 * k, 3 * k + 1) for k in range(63)]))
        self.assertEqual(numbers_of([(3 * k, 3 * k + 2) for k in reversed(range(63))]), ((0, 188),))

    def test_meets(self):
        for one, other, both in (
            ((), (), ()), ((), ((None, None),), ()), (((1, 5),), ((3, 9),), ((3, 5),)),
            (((1, 5),), ((5, 9),), ((5, 5),)),
            (((1, 5),), ((6, 9),), ()), (((1, 9),), ((3, 4),), ((3, 4),)),
            (((1, 9),), ((2, 3), (5, 6)), ((2, 3), (5, 6))),
            (((None, 5),), ((3, None),), ((3, 5),)), (((None, 5),), ((None, 3),), ((None, 3),)),
            (((5, None),), ((3, None),), ((5, None),)), (((None, 2),), ((4, None),), ()),
            (((None, None),), ((1, 2), (4, None)), ((1, 2), (4, None))),
            (((1, 3), (5, 7)), ((2, 6),), ((2, 3), (5, 6))), (((-BIG, BIG),), ((None, -BIG), (BIG, None)),
                                                              ((-BIG, -BIG), (BIG, BIG))),
            (((None, 0), (2, 4), (6, None)), ((0, 2), (4, 6)), ((0, 0), (2, 2), (4, 4), (6, 6))),
        ):
            self.assertEqual(meet_numbers(one, other), both)
            self.assertEqual(meet_numbers(other, one), both)

    def test_meets_of_all_small_ones(self):
        parts = all_numbers()
        self.assertEqual(len(set(parts.values())), len(parts))
        for left, one in parts.items():
            self.assertIs(is_numbers(one), True)
            self.assertEqual(covered(one), left)
            for right, other in parts.items():
                both = tuple([a and b for a, b in zip(left, right)])
                self.assertEqual(meet_numbers(one, other), parts[both], (one, other))

    def test_meets_of_many_stretches(self):
        evens = tuple([(4 * k, 4 * k + 2) for k in range(50)])
        others = tuple([(6 * k, 6 * k + 3) for k in range(50)])
        both = meet_numbers(evens, others)
        self.assertIs(is_numbers(both), True)
        for point in range(-2, 310):
            held = point % 4 <= 2 and 0 <= point < 200 and point % 6 <= 3 and point < 300
            self.assertEqual(any([low <= point <= high for low, high in both]), held, point)


WORDS = ("", "a", "b", "aa", "ba", "aaa")


def all_texts():
    """Every texts part over the words, by which words it has and whether it has all others."""
    found = {}
    for marks in itertools.product((False, True), repeat=len(WORDS) + 1):
        told = tuple([word for word, mark in zip(WORDS, marks) if mark != marks[-1]])
        found[marks] = ("but" if marks[-1] else "of", told)
    return found


class Texts(unittest.TestCase):
    def test_meets_and_joins(self):
        for one, other, both, either in (
            (("of", ("a", "b")), ("of", ("b", "c")), ("of", ("b",)), ("of", ("a", "b", "c"))),
            (("of", ("a", "b")), ("but", ("b", "c")), ("of", ("a",)), ("but", ("c",))),
            (("but", ("a", "b")), ("but", ("b", "c")), ("but", ("a", "b", "c")), ("but", ("b",))),
            (("of", ()), ("but", ()), ("of", ()), ("but", ())),
            (("of", ()), ("of", ("a",)), ("of", ()), ("of", ("a",))),
            (("but", ()), ("of", ("", "z")), ("of", ("", "z")), ("but", ())),
            (("of", ("a",)), ("but", ("a",)), ("of", ()), ("but", ())),
            (("of", ("b", "aa")), ("of", ("z", "ab", "aaa")), ("of", ()), ("of", ("b", "z", "aa", "ab", "aaa"))),
            (("but", ("b", "aa")), ("but", ("", "ab")), ("but", ("", "b", "aa", "ab")), ("but", ())),
        ):
            self.assertEqual(meet_texts(one, other), both)
            self.assertEqual(meet_texts(other, one), both)
            self.assertEqual(join_texts(one, other), either)
            self.assertEqual(join_texts(other, one), either)

    def test_all_small_ones(self):
        parts = all_texts()
        self.assertEqual(len(set(parts.values())), len(parts))
        for left, one in parts.items():
            self.assertIs(is_texts(one), True, one)
            for right, other in parts.items():
                both = tuple([a and b for a, b in zip(left, right)])
                either = tuple([a or b for a, b in zip(left, right)])
                self.assertEqual(meet_texts(one, other), parts[both], (one, other))
                self.assertEqual(join_texts(one, other), parts[either], (one, other))

    def test_many_texts(self):
        letters = "abcdefghijklmnopqrstuvwxyz"
        words = [one + other for one in ("", "a", "b") for other in letters]
        words = sorted(set(words), key=lambda word: (len(word), word))
        one = tuple(words[:50])
        other = tuple(words[20:70])
        self.assertEqual(meet_texts(("of", one), ("of", other)), ("of", tuple(words[20:50])))
        self.assertEqual(join_texts(("of", one), ("of", other)), ("of", tuple(words[:70])))
        self.assertEqual(meet_texts(("but", other), ("but", one)), ("but", tuple(words[:70])))
        self.assertEqual(join_texts(("of", one), ("but", other)), ("but", tuple(words[50:70])))


if __name__ == "__main__":
    unittest.main()
