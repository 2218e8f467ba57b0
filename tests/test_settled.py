"""Promises 1, 2, 26 to 28: the set of each place by tellings, or the ring or clash that is told."""

import copy
import itertools
import random
import unittest

from allmeet.meets import join, meet
from allmeet.setnotes import show_set
from allmeet.sets import is_set, set_of
from allmeet.settled import settled
from allmeet.tellings import read_telling
from allmeet.within import how_many
from things import IN_BOUND, NONE, Search, chance_rows, has, obeys, slow_clash, slow_classes, slow_left, value_there


def told(*texts):
    return [read_telling(text) for text in texts]


def show_path(path):
    return ".".join(path) or "."


def shown(outcome):
    """What settled tells, in words."""
    if outcome[0] != "met":
        return outcome[0] + " " + show_path(outcome[1])
    return "; ".join([show_path(path) + " in " + show_set(some) for path, some in outcome[1]])


# Tellings, beside what is told of their places but the whole.
MET = (
    ((), ""),
    (("a in 1..5",), "a in 1..5"),
    (("a in 1..5", "a in 3..9"), "a in 3..5"),
    (("a in 1..5", "a in 3..9", "a in 4 or text"), "a in 4"),
    (("a wish 1..5",), "a in any"),
    (("a wish nothing", "a in text"), "a in text"),
    (("a in any",), "a in any"),
    (("a only x y",), "a in {x?: any, y?: any}"),
    (("a only",), "a in {}"),
    (("a only x y", "a only y z"), "a in {y?: any}"),
    (("a only x", "a in {x?: 1, y?: 2, .. any} or 3"), "a in {x?: 1}"),
    (("a = b",), "a in any; b in any"),
    (("a = b", "a in 1..5", "b in 3.. or text"), "a in 3..5; b in 3..5"),
    (("a = b", "b = c", "a in 1..5", "c in 5..9"), "a in 5; b in 5; c in 5"),
    (("a.x in 1", "a = b"), "a in {x: 1, .. any}; a.x in 1; b in {x: 1, .. any}; b.x in 1"),
    (("a.x in 1..5", "b.x in 3..9", "a = b", "a only x"),
     "a in {x: 3..5}; a.x in 3..5; b in {x: 3..5}; b.x in 3..5"),
    (("a.x in 1", "b.y in 2", "a = b", "a only x y"),
     "a in {x: 1, y: 2}; a.x in 1; a.y in 2; b in {x: 1, y: 2}; b.x in 1; b.y in 2"),
    (("a in {x: 1..5, .. text}", "a.x in 3..9"), "a in {x: 3..5, .. text}; a.x in 3..5"),
    (("a in {x?: 1..5, .. text}", "a.x wish 1"), "a in {x: 1..5, .. text}; a.x in 1..5"),
    (("a in {x?: 1, .. text}", "a.y in any"), "a in {x?: 1, y: text, .. text}; a.y in text"),
    (("a in {x: 1, y?: 2} or 7 or [.. any]", "a.y in any"), "a in {x: 1, y: 2}; a.y in 2"),
    (("a in any", "a.x in any"), "a in {x: any, .. any}; a.x in any"),
    (("a.x.y in 1", "a in {x: {y: number, z: 2}}"), "a in {x: {y: 1, z: 2}}; a.x in {y: 1, z: 2}; a.x.y in 1"),
    (("a in {x: [1, .. any]}", "a.x in [.. number]"), "a in {x: [1, .. number]}; a.x in [1, .. number]"),
    (("a in [{x: 1..5}, .. any]", "a in [{x: 3..9}]"), "a in [{x: 3..5}]"),
    (("a in [{x: 1, .. any}]", "b.x = c", "a = d"),
     "a in [{x: 1, .. any}]; b in {x: any, .. any}; b.x in any; c in any; d in [{x: 1, .. any}]"),
    (("a.x = a.y", "a.x in 1..2"), "a in {x: 1..2, y: 1..2, .. any}; a.x in 1..2; a.y in 1..2"),
    (("a = b + 3",), "a in number; b in number"),
    (("a = b + 3", "b in 1..5 or text"), "a in 4..8; b in 1..5"),
    (("a = b - 3", "b in 1..5 or 9.."), "a in -2..2 or 6..; b in 1..5 or 9.."),
    (("a = b + 3", "b in 1..5", "a in 5.."), "a in 5..8; b in 2..5"),
    (("a = b + 1", "b = c + 1", "c = d + 1", "a in ..9", "d in 0..", "b in 5.."),
     "a in 6..9; b in 5..8; c in 4..7; d in 3..6"),
    (("a = b + 1", "c = b + 1", "a in 1..5", "c in 5..9"), "a in 5; b in 4; c in 5"),
    (("a = b + 1", "b = a - 1", "a in 1"), "a in 1; b in 0"),
    (("a = b + 1", "c = b", "c in 1..3", "d = a", "d in 3.."), "a in 3..4; b in 2..3; c in 2..3; d in 3..4"),
    (("a = b", "a.x = c + 1", "b.x in 1..3", "c in 2.."),
     "a in {x: 3, .. any}; a.x in 3; b in {x: 3, .. any}; b.x in 3; c in 2"),
    (("a.x = a.y + 1", "a in {x: 1..5, y: 1..5}"), "a in {x: 2..5, y: 1..4}; a.x in 2..5; a.y in 1..4"),
    (("a in 100000000000000000000", "a = b - 100000000000000000000"),
     "a in 100000000000000000000; b in 200000000000000000000"),
    (("a.b.c.d in 1",), "a in {b: {c: {d: 1, .. any}, .. any}, .. any}; a.b in {c: {d: 1, .. any}, .. any}; "
     "a.b.c in {d: 1, .. any}; a.b.c.d in 1"),
    (("a.l = b", "a.r = b", "b in 1..2"), "a in {l: 1..2, r: 1..2, .. any}; a.l in 1..2; a.r in 1..2; b in 1..2"),
    (("a in {x?: nothing, .. any}", "a.y in 1"), "a in {x?: nothing, y: 1, .. any}; a.y in 1"),
    (("a only x y", "a.x in 1"), "a in {x: 1, y?: any}; a.x in 1"),
    (("a in {m: 1, z?: 2, .. any}", "a.x in 3", "a.b in 4"),
     "a in {b: 4, m: 1, x: 3, z?: 2, .. any}; a.b in 4; a.x in 3"),
    (("a = b", "b only x", "a.x in any"), "a in {x: any}; a.x in any; b in {x: any}; b.x in any"),
    (("a.x in {y: 1, .. any}", "a.x.z in 2", "a in {.. {.. number}}"),
     "a in {x: {y: 1, z: 2, .. number}, .. {.. number}}; a.x in {y: 1, z: 2, .. number}; a.x.z in 2"),
)

# Tellings, beside what is told of the whole.
WHOLE = (
    ((), "{.. any}"), ((". in any",), "{.. any}"), ((". in {a: 1}",), "{a: 1}"), ((". wish {a: 1}",), "{.. any}"),
    ((". in 1 or {a?: 2, .. text}",), "{a?: 2, .. text}"), ((". only a b",), "{a?: any, b?: any}"), ((". only",), "{}"),
    (("a in 1",), "{a: 1, .. any}"), (("a in 1", ". only a"), "{a: 1}"), (("a in 1", ". only a b"), "{a: 1, b?: any}"),
    ((". = .",), "{.. any}"), (("a in 1..5", ". in {a: 3..9, .. text}"), "{a: 3..5, .. text}"),
    (("a = b", ". only a b", "a in truth"), "{a: truth, b: truth}"),
    (("a.x = b + 1", ". only a b", "b in 1..2", "a only x"), "{a: {x: 2..3}, b: 1..2}"),
    ((". in {.. 1..5}", "a = b + 1"), "{a: 2..5, b: 1..4, .. 1..5}"),
)

FAULTS = (
    (("a in nothing",), "clash a"), ((". in nothing",), "clash ."), ((". in 1",), "clash ."),
    ((". in [.. any]",), "clash ."),
    (("a in 1", "a in 2"), "clash a"), (("a in 1", "b = a", "b in 2"), "clash a"), (("a in 1", "a in true"), "clash a"),
    (("b in 1", "b in 2", "a = b"), "clash a"), (("b in 1", "b in 2", "c = b"), "clash b"),
    (("a in {x?: nothing}", "a.x in any"), "clash a.x"), (("a in {x?: nothing}", "a.x wish any"), "clash a.x"),
    (("a in {x?: nothing, .. any}", "a.x = b"), "clash a.x"), (("a in {x: 1}", "a.x in 2"), "clash a.x"),
    (("a in {x?: 1}", "a.x in 2"), "clash a.x"), (("a in {.. 1}", "a.x in 2"), "clash a.x"),
    (("a in {}", "a.x in any"), "clash a.x"),
    (("a in 1", "a.x in 1"), "clash a"), (("a in [.. any]", "a.x in 1"), "clash a"),
    (("a in {x: 1}", "a in {x: 2}"), "clash a"),
    (("a in {x: 1}", "a in {x: 2}", "a.x in 1"), "clash a"), (("a only x", "a.y in 1"), "clash a.y"),
    ((". only x", "y in 1"), "clash y"),
    (("a only", "a.x.y in 1"), "clash a.x"), (("a only x", "a in number"), "clash a"),
    (("a only x", "a in {y: 1}"), "clash a"),
    (("b only x", "a = b", "a in number"), "clash a"), (("b only x", "b = a", "a.y wish 1"), "clash a.y"),
    (("a only x", "b = a", "b.y wish 1", "c = b.y"), "clash a.y"), (("b only x", "c = b.y", "a = c"), "clash a"),
    (("a = b + 1", "a in text"), "clash a"), (("a = b + 1", "b in text"), "clash a"),
    (("b = c + 1", "c in text", "a in 1"), "clash b"),
    (("a = b + 1", "a in 1..5", "b in 5.."), "clash a"), (("a = b + 1", "a.x in 1"), "clash a"),
    (("a = b + 1", "b.x in 1"), "clash a"),
    (("c = b + 1", "c.x in 1", "c.x = a"), "clash a"), (("b.x = c + 1", "b.x = c + 2"), "clash b.x"),
    (("b.x = c + 1", "b.x = c + 2", "c = d + 1", "a = d"), "clash a"), (("b = b + 1",), "clash b"),
    (("b = c", "c = b + 1"), "clash b"),
    (("b = c + 1", "c = b + 1"), "clash b"), (("b = c + 1", "c = d + 1", "d = b + 1"), "clash b"),
    ((". = . + 1",), "clash ."),
    (("b = c + 1", "c = d + 1", "b = d + 3", "e = f + 1", "e in 1", "f in 1", "a = f"), "clash a"),
    (("b = c + 1", "c = d + 1", "b = d + 3", "z = y + 1"), "clash b"), ((". = a + 1",), "clash ."),
    (("a = . + 1",), "clash ."),
    (("a = b.x + 1", "a = b", "b.x in 1"), "clash a"), (("b = a.x + 1", "b.y = c"), "clash a.x"),
    (("b.x = c", "a = c + 1", "b in {.. text}"), "clash a"),
    (("b.x = c", "d = c + 1", "b in {.. text}"), "clash b.x"),
    (("a.x = b.x", "a in {x: 1}", "b in {x: 2}"), "clash a.x"),
    (("a = b", "a in {x: 1}", "b.x in 2", "b.x = aa"), "clash a.x"),
    (("a = b", "a in {x: 1..5}", "b in {y: 1}"), "clash a"),
    (("b.c in 1", "b.c in 2", "a = b"), "clash a.c"),
    (("b.c in 1", "b.c in 2", "b.a in nothing", "b.d in 3"), "clash b.a"),
    (("a.x.y.z in 1", "a in {x: {y: {.. text}}}"), "clash a.x.y.z"),
    (("a.x.y.z in 1", "a in {x: {y: text}}"), "clash a.x.y"),
    (("a.x.y.z in 1", "a in {x: {y: text}} or {x: {.. any}}", "a.x.y in [.. any]"), "clash a.x.y"),
    (("aa in nothing", "a.z in nothing", "a.b.c in nothing"), "clash a.b.c"),
    (("ab in nothing", "aa.z in nothing"), "clash aa.z"),
    (("a in {x: {y: 1}}", "a.x = b", "b.y = c", "c in 2"), "clash a.x.y"),
    (("c in {x: {y: 1}}", "c.x = b", "b.y = a", "a in 2"), "clash a"),
    (("a in [{x: nothing}]",), "clash a"), (("a in {x: 1..3}", "a in {x: 5..}"), "clash a"),
    (("a in 1 or {x: 2}", "a.x in 1"), "clash a.x"),
    (("a = a.b",), "ring a"), ((". = a",), "ring ."), (("a = a.b", "a in nothing"), "ring a"),
    (("b.x = c", "c.x = b", "a in nothing"), "ring b"),
    (("a.x = b", "b.x = c", "c.x = a", "a in 1"), "ring a"),
)


class Tables(unittest.TestCase):
    def each_order(self, texts):
        row = told(*texts)
        for some in itertools.islice(itertools.permutations(row), 24):
            yield list(some)
            yield list(some) + list(some[:1])
        yield row + row

    def test_met(self):
        for texts, words in MET:
            for row in self.each_order(texts):
                outcome = settled(row)
                self.assertEqual(outcome[0], "met", texts)
                self.assertEqual(outcome[1][0][0], ())
                self.assertEqual(shown(("met", outcome[1][1:])), words, texts)

    def test_the_whole(self):
        for texts, words in WHOLE:
            for row in self.each_order(texts):
                outcome = settled(row)
                self.assertEqual(outcome[0], "met", texts)
                self.assertEqual(show_set(dict(outcome[1])[()]), words, texts)

    def test_faults(self):
        for texts, words in FAULTS:
            for row in self.each_order(texts):
                self.assertEqual(shown(settled(row)), words, texts)

    def test_kinds(self):
        outcome = settled(told("a.x in 1"))
        self.assertIsInstance(outcome, tuple)
        self.assertIsInstance(outcome[1], list)
        self.assertEqual([len(place) for place in outcome[1]], [2, 2, 2])
        self.assertEqual([place[0] for place in outcome[1]], [(), ("a",), ("a", "x")])
        for path, some in outcome[1]:
            self.assertIs(is_set(some), True)
        self.assertEqual(settled(told("a.x in nothing")), ("clash", ("a", "x")))
        self.assertEqual(settled(told("a.x = a")), ("ring", ("a",)))

    def test_many_places(self):
        names = ["".join(letters) for letters in itertools.product("abcdefgh", repeat=2)][:48]
        row = [("same", (one,), (other,), 0) for one, other in zip(names, names[1:])]
        row += told("ab.x in 1..5", "ac.y.z in text", "ad.y in {z: any, .. 1}", "fg.x in 3..9")
        outcome = settled(row)
        self.assertEqual(len(outcome[1]), 1 + 48 * 4)
        for name in names:
            self.assertEqual(show_set(dict(outcome[1])[(name,)]), "{x: 3..5, y: {z: text, .. 1}, .. any}")

    def test_nine_names(self):
        row = told("a.b.c.d = x", "x.e.f.g = y", "y.h.i in 3", "y.h.i in 1..")
        outcome = settled(row)
        self.assertIn((("a", "b", "c", "d", "e", "f", "g", "h", "i"), set_of(3)), outcome[1])
        self.assertEqual(settled(row + told("x.e in {f: {g: {h: {i: 1..2}}}}")),
                         ("clash", ("a", "b", "c", "d", "e", "f", "g", "h", "i")))


class SecondWays(unittest.TestCase):
    def test_clashes_and_rings(self):
        for row in chance_rows(random.Random(27), 2500, bounded=0.2):
            outcome = settled(row)
            slow = slow_clash(row, meet)
            self.assertEqual(None if outcome[0] == "met" else outcome, slow, row)

    def test_sets_of_places_without_fields(self):
        for row in chance_rows(random.Random(26), 1000, longest=4, bounded=0):
            outcome = settled(row)
            if outcome[0] == "met":
                self.assertTrue(all(is_set(some) for path, some in outcome[1]), row)
                left = slow_left(row, meet)
                self.assertEqual([path for path, some in outcome[1]], sorted(slow_classes(row)))
                for path, some in outcome[1]:
                    if not any(other[:-1] == path for other in left if other):
                        self.assertEqual(some, left[path], (row, path))

    def test_by_a_search_through_plain_values(self):
        search = Search()
        chance = random.Random(25)
        seen = {"met": 0, "clash": 0, "ring": 0}
        for row in chance_rows(chance, 2500, bounded=1):
            outcome = settled(row)
            values = search.plain_values(search.fulfilling(row))
            seen[outcome[0]] += 1
            if outcome[0] != "met":
                self.assertEqual(values, [], (row, outcome))
            else:
                self.assertNotEqual(values, [], (row, outcome))
                if len(values) < 100:
                    self.least(row, outcome[1], values)
        self.assertGreater(min(seen.values()), 100)

    def least(self, row, told_places, values):
        for path, some in told_places:
            there = {repr(value): value for value in (value_there(whole, path)[0] for whole in values)}
            least = NONE
            for value in there.values():
                least = join(least, set_of(value))
            self.assertEqual(some, least, (row, path))
            if not any(other[:-1] == path for other, _ in told_places if other):
                self.assertEqual(how_many(some), len(there), (row, path))

    def test_all_that_is_found_lies_in_the_sets(self):
        search = Search()
        for row in chance_rows(random.Random(29), 1500, longest=4, bounded=0):
            outcome = settled(row)
            values = search.plain_values(search.fulfilling(row))
            if outcome[0] == "met":
                for value in values[:40]:
                    for path, some in outcome[1]:
                        self.assertIs(has(some, value_there(value, path)[0]), True, (row, path, value))
            else:
                self.assertEqual(values, [], row)

    def test_orders_and_twice(self):
        chance = random.Random(28)
        for row in chance_rows(chance, 1000):
            outcome = settled(row)
            other = list(row)
            chance.shuffle(other)
            self.assertEqual(settled(other), outcome, row)
            if row:
                other.insert(chance.randrange(len(other)), chance.choice(row))
                self.assertEqual(settled(other), outcome, row)
                self.assertEqual(settled(row + row[::-1]), outcome, row)


class HandedIn(unittest.TestCase):
    def test_it_stays(self):
        for row in chance_rows(random.Random(30), 100):
            kept = copy.deepcopy(row)
            outcome = settled(row)
            self.assertEqual(repr(row), repr(kept))
            self.assertEqual(repr(settled(row)), repr(outcome))

    def test_told_lists_are_new(self):
        row = told("a in 1", "b = a")
        first = settled(row)
        kept = copy.deepcopy(first)
        first[1].clear()
        self.assertEqual(settled(row), kept)
        row.append(read_telling("a in 2"))
        self.assertEqual(settled(row[:2]), kept)

    def test_told_sets_may_be_handed_on(self):
        row = told("a.b.c.d = x", "x.e.f.g = y", "y.h.i in 3")
        for path, some in settled(row)[1]:
            if len(path) <= 4:
                self.assertEqual(settled(row + [("in", path, some)]), settled(row))
                self.assertIs(obeys(("record", ()), ("in", (), some)), False)

    def test_what_is_bound(self):
        self.assertEqual(settled([IN_BOUND])[1], [((), IN_BOUND[2])])


if __name__ == "__main__":
    unittest.main()
