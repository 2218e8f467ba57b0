"""Promises 1, 2, 35 and 36: whether all plain values that fulfil the one tellings fulfil the others."""

import copy
import itertools
import random
import unittest

from allmeet.below import not_below
from allmeet.setnotes import read_set
from allmeet.settled import settled
from allmeet.tellings import read_telling
from allmeet.values import is_value
from things import Search, chance_rows, chance_telling, every_value, obeys


def told(*texts):
    return [read_telling(text) for text in texts]


# The first tellings lie below the second ones.
BELOW = (
    ((), ()), (("a in 1",), ()), ((), (". in any",)), ((), (". in {.. any}",)), ((), (". wish nothing",)),
    ((), (". = .",)),
    (("a in 1",), ("a in 1..5",)), (("a in 1",), ("a in 1",)), (("a in 1",), ("a wish 7",)),
    (("a wish 1",), ("a in any",)), (("a in 1",), ("a in 1", "a = a")),
    (("a wish 1",), ("a wish 2",)), (("a.b wish 1",), ("a in {.. any}",)),
    (("a.b wish 1",), ("a in {b: any, .. any}",)), (("a.b wish 1",), (". in {a: {b: any, .. any}, .. any}",)),
    (("a in {x: 1, .. any}",), ("a.x in 1",)), (("a in {x: {y: 1..3}}",), ("a.x.y in 1..5",)),
    (("a in {x: {y: 1..3}}",), ("a.x only y", "a only x")),
    (("a in {x: {y: 1..3}}",), ("a.x.y wish 1", "a.x = a.x")), ((". in {a: 1}",), (". only a",)),
    ((". in {a?: 1}",), (". only a b",)), (("a only x",), ("a only x y",)),
    (("a only",), ("a in {}",)), (("a in {}",), ("a only",)), (("a only x", "a.x in 1"), ("a in {x: 1}",)),
    (("a in {x: 1}",), ("a only x", "a.x in 1")),
    (("a in 1..5", "a in 5..9"), ("a in 5",)), (("a in 5",), ("a in 1..5", "a in 5..9")),
    (("a in 1", "b in 1"), ("a = b",)), (("a in 1", "b in 1"), ("b = a",)),
    (("a = b",), ("b = a",)), (("a = b", "b = c"), ("a = c",)), (("a = b", "c in 1"), ("b = a", "c = c")),
    (("a = b", "a.x in any"), ("b.x = a.x",)), (("a = b", "a in {x: any, .. any}"), ("b.x = a.x",)),
    (("a = b", "a in {x: any, .. any}"), ("b.x wish 1",)), (("a.x = b.x", "a only x", "b only x"), ("a = b",)),
    (("a.x = b.x", "a in {x: any, y: 3}", "b in {x: any, y: 3}"), ("a = b",)),
    (("a.x = b.x", "a.y = b.y", "a only x y", "b only x y"), ("a = b", "b = a")),
    (("a.x.y = b.x.y", "a only x", "b only x", "a.x only y", "b.x only y"), ("a = b", "a.x = b.x")),
    (("a.x in 1", "a only x", "b in {x: 1}"), ("a = b",)), (("a in []", "b in []"), ("a = b",)),
    (("a = b + 1",), ("b = a - 1",)), (("a = b + 1",), ("a in number", "b in number")),
    (("a = b + 1", "b = c + 1"), ("a = c + 2",)), (("a = b + 1", "c = b + 1"), ("a = c",)),
    (("a = b + 1", "c = b + 1"), ("c = a",)), (("a = b + 1", "b in 1..5"), ("a in 2..6",)),
    (("a in 1", "b in 3"), ("b = a + 2",)), (("a in 1", "b in 3"), ("a = b - 2", "a = a")),
    (("a = b + 1", "c = d + 1", "b = d"), ("a = c",)),
    (("a = b + 1", "c.x = b + 1", "d only x", "c only x", "d.x = a"), ("c = d",)),
    (("a.x = a.y",), ("a.y = a.x", "a in {x: any, y: any, .. any}")),
    ((". in {a: {b: 1..3}, .. any}",), ("a.b in 1..3", "a only b c")), (("a in true",), ("a in truth",)),
    (("a in {x?: nothing, .. any}",), ("a in {x?: nothing, .. any}",)),
    (("a only x",), ("a in {y?: nothing, .. any}",)), (("a in [{x: 1}]",), ("a in [.. {x: any}]",)),
    (("a in nothing",), ("b in nothing",)), (("a in 1", "a in 2"), ("a in 3",)),
    (("a = a.b",), ("a = b + 1", "a in nothing")), ((". = a",), ("z wish 1",)), (("a in nothing",), ("a = a.b",)),
    (("a in {x: 1, y: 1}",), ("a.x = a.y",)), (("a in {x: {p: 1}, y: {p: 1}}",), ("a.x = a.y", "a.x.p = a.y.p")),
    (("a in 1 or {x: 1}", "a.x wish 2"), ("a in {x: 1}",)),
)

# They don't.
NOT_BELOW = (
    ((), ("a in any",)), ((), ("a wish any",)), ((), (". only a",)), ((), (". only",)), ((), (". in {}",)),
    ((), (". in nothing",)), ((), (". in 1",)), ((), ("a = a",)),
    ((), (". = a",)), ((), (". = . + 1",)), ((), ("a = a.b",)), (("a in 1..5",), ("a in 1",)),
    (("a in 1",), ("a in 2",)), (("a in 1",), ("a in true",)), (("a in 1",), ("a.x wish 1",)),
    (("a in any",), ("a.x wish 1",)), (("a in {.. any}",), ("a.x wish 1",)), (("a in {x?: 1}",), ("a.x in 1",)),
    (("a in {x: 1..5}",), ("a.x in 1..4",)), (("a in {x: {y?: 1}}",), ("a.x.y wish 1",)),
    (("a in {x: 1} or 2",), ("a.x in 1",)), (("a in {x: 1} or 2",), ("a in {x: 1}",)), (("a in 1",), (". only a",)),
    (("a in 1",), (". in {a: 1}",)), (("a in 1", ". only a b"), (". only a",)),
    (("a.x in 1",), ("a only x",)), (("a.x in 1",), ("a in {x: 1}",)), (("a only x",), ("a.x wish 1",)),
    (("a only x",), ("a only",)), (("a only x y", "a.x in 1"), ("a only x",)),
    (("a only",), ("a only", "b wish 1")), (("a in 1", "b in 1..2"), ("a = b",)), (("a in 1", "b in any"), ("a = b",)),
    (("a in 1", "b in true"), ("a = b",)), (("a = b",), ("a = c",)),
    (("a = b", "c wish 1"), ("a = c",)), (("a = b", "c = d"), ("a = b", "c = d", "b = c")),
    (("a.x = b.x",), ("a = b",)), (("a.x = b.x", "a only x"), ("a = b",)), (("a.x = b.x", "b only x"), ("a = b",)),
    (("a.x = b.x", "a only x y", "b only x"), ("a = b",)),
    (("a.x = b.x", "a in {x: any, y: 3..4}", "b in {x: any, y: 3}"), ("a = b",)),
    (("a.x = b.x", "a in {x: any, y: 3}", "b in {x: any, y: 3..4}"), ("a = b",)),
    (("a.x = b.y", "a only x", "b only y"), ("a = b",)), (("a.x in 1", "b.x in 1", "a only x"), ("a = b",)),
    (("a.x in 1..2", "a only x", "b in {x: 1}"), ("a = b",)), (("a.x in 1", "a only x", "b in {x: 1..2}"), ("a = b",)),
    (("a = b + 1",), ("a = b",)), (("a = b + 1",), ("a = b + 2",)), (("a = b + 1",), ("b = a + 1",)),
    (("a = b + 1", "c = d + 1"), ("a = d + 1",)), (("a = b + 1", "c in number"), ("a = c",)),
    (("a = b + 1", "c in 0"), ("b = c",)),
    (("a = b",), ("a = b + 1",)), (("a in 1", "b in 3"), ("b = a + 1",)), (("a in 1..2", "b in 3"), ("b = a + 2",)),
    (("a in 1", "b in 3..4"), ("b = a + 2",)), (("a in any", "b in any"), ("a = b + 1",)),
    (("a in 1",), ("a in 1", "a in 2")), (("a in 1",), ("a = a.b",)), (("a.b in 1",), ("a = a.b",)),
    (("a in 1",), (". = a",)), (("a in 1",), ("b in nothing",)), (("a.x = b",), ("a = b",)),
    (("a in {x: any, y: any}",), ("a.x = a.y",)), (("a in {x: any, y: any}",), ("a.x = a.y + 1",)),
    (("a in {x: {p?: 1}, y: {p?: 1}}",), ("a.x = a.y",)), (("a in [.. any]",), ("a in [.. {.. any}]",)),
    (("a in {b: any, x: any, y: any}",), ("a.x = a.y",)), (("a in {b?: any, x: any, y: any, .. any}",), ("a.x = a.y",)),
    (("b = a + 5", "b in 10..11"), ("a in 5",)), (("a = b + 5", "a in 10..11"), ("b in 5",)),
    (("a = b + 5", "a in 10..11"), ("a in 10",)),
    (("a = b + 5", "c = b - 2", "c in 1..2"), ("b in 3",)), (("a = b + 5", "c = b - 2", "c in 1..2"), ("a in 8",)),
    (("a in text but \"\" \"a\"", "b in \"b\""), ("a = b",)), (("a in truth", "b in truth"), ("a = b",)),
    (("a.l = a.r", "a.l.x in any"), ("a.l.x = a.l.y",)), (("a in {b: 0, .. any}",), ("a in {b: 0, .. 0}",)),
)


class Cases(unittest.TestCase):
    def shows(self, one, other):
        value = not_below(one, other)
        self.assertIsNotNone(value, (one, other))
        self.assertIs(is_value(value), True)
        self.assertEqual(value[0], "record")
        self.assertTrue(all(obeys(value, telling) for telling in one), (one, other, value))
        self.assertFalse(all(obeys(value, telling) for telling in other), (one, other, value))
        self.assertEqual(repr(not_below(copy.deepcopy(one), copy.deepcopy(other))), repr(value))
        return value


class Tables(Cases):
    def test_below(self):
        for one, other in BELOW:
            for row in itertools.islice(itertools.permutations(told(*one)), 6):
                self.assertIsNone(not_below(list(row), told(*other)), (one, other))
                self.assertIsNone(not_below(list(row), told(*other)[::-1] * 2), (one, other))

    def test_not_below(self):
        for one, other in NOT_BELOW:
            value = self.shows(told(*one), told(*other))
            self.assertEqual(repr(not_below(told(*one)[::-1] * 2, told(*other)[::-1])), repr(value))

    def test_a_row_against_itself(self):
        for texts in [texts for pair in BELOW + NOT_BELOW for texts in pair]:
            row = told(*texts)
            self.assertIsNone(not_below(row, row), texts)
            self.assertIsNone(not_below(row, row[::-1] + row), texts)
            self.assertIsNone(not_below(row, []), texts)

    def test_told_sets_lie_above(self):
        for texts in [texts for pair in BELOW + NOT_BELOW for texts in pair]:
            outcome = settled(told(*texts))
            if outcome[0] == "met":
                sets = [("in", path, some) for path, some in outcome[1] if len(path) < 5]
                self.assertIsNone(not_below(told(*texts), sets), texts)

    def test_names_that_neither_tells_of(self):
        letters = "abcdefghijklmnopqrstuvwxyz"
        row = [("wish", (letter,), "any") for letter in letters]
        value = self.shows(row, [("only", (), tuple(letters))])
        self.assertEqual(len(value[1]), 27)
        self.assertEqual(len([name for name, there in value[1] if name not in letters]), 1)
        self.shows([("in", ("x",) + telling[1], "any") for telling in row], [("only", ("x",), tuple(letters))])
        self.shows(told("a.a wish 1", "a.b wish 1"), told("a in {a: any, b: any, c?: any}"))
        self.shows(told("a in {a?: nothing, .. any}", "a.b in 1"), told("a in {b: any, c?: any}"))

    def test_many(self):
        names = ["".join(letters) for letters in itertools.product("abcdefgh", repeat=2)][:60]
        row = [("same", (one,), (other,), 0) for one, other in zip(names, names[1:])]
        self.assertIsNone(not_below(row, row[::-1]))
        self.assertIsNone(not_below(row, told("aa = hd", "ab = ha")))
        self.shows(row[:30] + row[31:], row)
        steps = [("same", (one,), (other,), 2) for one, other in zip(names, names[1:])]
        self.assertIsNone(not_below(steps, [("same", (names[5],), (names[55],), 100)]))
        self.shows(steps, [("same", (names[5],), (names[55],), 99)])
        self.shows(steps[:30] + steps[31:], [("same", (names[5],), (names[55],), 100)])
        self.assertIsNone(not_below(steps, [("in", (), "any")] + steps))


class SecondWays(Cases):
    def test_by_a_search_through_plain_values(self):
        search = Search()
        chance = random.Random(36)
        seen = {True: 0, False: 0}
        for one in chance_rows(chance, 2500, longest=5, bounded=1):
            other = [chance.choice(list(search.known) or one) for _ in range(chance.randrange(4))]
            bits = search.fulfilling(one)
            if bits & ~search.fulfilling(other):
                self.shows(one, other)
            else:
                self.assertIsNone(not_below(one, other), (one, other))
            if bits:
                seen[bits & ~search.fulfilling(other) == 0] += 1
        self.assertGreater(min(seen.values()), 100)

    def test_without_a_bound(self):
        search = Search()
        chance = random.Random(37)
        seen = {True: 0, False: 0}
        for one in chance_rows(chance, 2500, longest=4, bounded=0):
            other = [chance_telling(chance) for _ in range(chance.randrange(1, 3))] + one[:chance.randrange(3)]
            if not_below(one, other) is None:
                self.assertEqual(search.fulfilling(one) & ~search.fulfilling(other), 0, (one, other))
            else:
                self.shows(one, other)
            if settled(one)[0] == "met":
                seen[not_below(one, other) is None] += 1
            else:
                self.assertIsNone(not_below(one, other), (one, other))
        self.assertGreater(min(seen.values()), 30)

    def test_sames(self):
        search = Search()
        chance = random.Random(38)
        paths = [(), ("a",), ("b",), ("c",), ("a", "a"), ("a", "b"), ("b", "a"), ("c", "a"), ("c", "a", "a")]
        seen = {True: 0, False: 0}
        for one in chance_rows(chance, 1500, longest=4, bounded=1):
            values = search.plain_values(search.fulfilling(one))
            if values:
                kept = chance.choice(values)
                one += [("in", path, "any") for path in paths if chance.random() < 0.7 and obeys(kept,
                    ("wish", path, "any"))]
                other = [("same", left, right, step) for left in paths for right in paths for step in (0, 1)
                         if left != right and obeys(kept, ("same", left, right, step))]
                for telling in other:
                    below = search.fulfilling(one) & ~search.bits(telling) == 0
                    self.assertIs(not_below(one, [telling]) is None, below, (one, telling))
                    seen[below] += 1
                    if not below:
                        self.shows(one, [telling])
        self.assertGreater(min(seen.values()), 50)


    def test_sames_of_fields_that_are_no_places(self):
        paths = [(), ("a",), ("b",), ("a", "x"), ("a", "y"), ("b", "x"), ("b", "x", "p"), ("a", "x", "p")]
        for text in ("{a: {w: 0..1, x: 0..1, y: 0..1}, b: {x: 0..1}}", "{a: {x: 0..1}, b: {x: 0..1}, c: 0..1}",
                     "{a: {w?: 0, x: 0, y?: 0}, b: {w?: 0, x: 0}}",
                     "{a: {x: {p: 0..1}, y: 0}, b: {x: {p: 0..1}, y: 0}}",
                     "{a: {x: {o?: 0, p: 0..1}}, b: {x: {p: 0..1, q?: 0}}}", "{a: 0..1, b: 0..1}",
                     "{a: {x: 0}, b: {x: 0}}",
                     "{a: {x: 0..1}, b: ({x: 0..1} or 1)}", "{a: {x: 1}, b: {x: 1..2}}"):
            values = every_value(read_set(text))
            for more in ((), ("a = b",), ("a.x = b.x",), ("a.x = b.x + 1",), ("a.y = a.x",), ("a.w = b.x",),
                ("a.x.p = b.x.p",)):
                one = told(". in " + text, *more)
                left = [value for value in values if all(obeys(value, telling) for telling in one)]
                for here, there, step in itertools.product(paths, paths, (0, 1)):
                    telling = ("same", here, there, step)
                    if all(obeys(value, telling) for value in left):
                        self.assertIsNone(not_below(one, [telling]), (one, telling))
                    else:
                        self.shows(one, [telling])


class HandedIn(unittest.TestCase):
    def test_it_stays(self):
        chance = random.Random(39)
        for one, other in zip(chance_rows(chance, 100), chance_rows(chance, 100)):
            kept = copy.deepcopy((one, other))
            not_below(one, other)
            self.assertEqual(repr((one, other)), repr(kept))


if __name__ == "__main__":
    unittest.main()
