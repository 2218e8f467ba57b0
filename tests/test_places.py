"""Promises 1, 23 to 25: the places of tellings, their classes and groups, and rings."""

import copy
import itertools
import random
import unittest

from allmeet.errors import MeetError
from allmeet.places import apart, classes, places, ring
from allmeet.tellings import read_telling, show_telling
from things import chance_rows, slow_classes, slow_ring, slow_steps


def told(*texts):
    return [read_telling(text) for text in texts]


def path(text):
    return () if text == "." else tuple(text.split("."))


def shown(paths):
    return " ".join([".".join(one) or "." for one in paths])


# Tellings, their places, and those of their classes that have two places or more.
PLACES = (
    ((), ".", []),
    (("a in 1",), ". a", []),
    ((". in any",), ".", []),
    ((". only a b",), ".", []),
    (("a only x y",), ". a", []),
    (("a.b.c.d wish 1",), ". a a.b a.b.c a.b.c.d", []),
    (("b in 1", "aa.b in 1", "ab in 1", "a.c in 1", "a in 1", "aa in 2"), ". a a.c aa aa.b ab b", []),
    (("a in {x: 1, y: {z: 1}}",), ". a", []),
    (("a = b",), ". a b", ["a b"]),
    (("a = a",), ". a", []),
    ((". = .",), ".", []),
    (("a = b + 1",), ". a b", []),
    (("b = a", "c = b"), ". a b c", ["a b c"]),
    (("b = a", "d = c"), ". a b c d", ["a b", "c d"]),
    (("b = a", "d = c", "d = a"), ". a b c d", ["a b c d"]),
    (("a.x in 1", "a = b"), ". a a.x b b.x", ["a b", "a.x b.x"]),
    (("a.x in 1", "b.y in 1", "a = b"), ". a a.x a.y b b.x b.y", ["a b", "a.x b.x", "a.y b.y"]),
    (("a = b + 1", "a.x in 1"), ". a a.x b", []),
    (("a = b + 1", "c = b + 1", "a.x in 1"), ". a a.x b c", []),
    (("a.x.y.z in 1", "b = a", "c = b.x"), ". a a.x a.x.y a.x.y.z b b.x b.x.y b.x.y.z c c.y c.y.z",
    ["a b", "a.x b.x c", "a.x.y b.x.y c.y", "a.x.y.z b.x.y.z c.y.z"]),
    (("a = b", "a.x = c", "b.x = d", "d.y in 1"), ". a a.x a.x.y b b.x b.x.y c c.y d d.y",
    ["a b", "a.x b.x c d", "a.x.y b.x.y c.y d.y"]),
    (("a.x = a.y", "a.x.z in 1"), ". a a.x a.x.z a.y a.y.z", ["a.x a.y", "a.x.z a.y.z"]),
    (("a = b", "b = c", "c.x = d", "a.x.y in 1", "e = d.y"), ". a a.x a.x.y b b.x b.x.y c c.x c.x.y d d.y e",
    ["a b c", "a.x b.x c.x d", "a.x.y b.x.y c.x.y d.y e"]),
    (("a.l = b", "a.r = b", "b.l = c", "b.r = c"), ". a a.l a.l.l a.l.r a.r a.r.l a.r.r b b.l b.r c",
    ["a.l a.r b", "a.l.l a.l.r a.r.l a.r.r b.l b.r c"]),
    (("a = b.x", "c = b", "c.x.y = d + 2"), ". a a.y b b.x b.x.y c c.x c.x.y d",
     ["a b.x c.x", "a.y b.x.y c.x.y", "b c"]),
)

# Tellings beside the path that is told of their ring.
RINGS = (
    ((), None), (("a in 1",), None), (("a = a",), None), ((". = .",), None), (("a = b",), None),
    ((". = a",), "."), (("a = .",), "."), (("a.b.c = .",), "."), (("a = a.b",), "a"), (("a.b = a",), "a"),
    (("a = a.b.c",), "a"), (("a.b = a.b.c",), "a.b"), (("x.a = x.a.b", "a.y in 1"), "x.a"), (("a = b", "b = a.x"), "a"),
    (("b = c", "c = b.x"), "b"), (("a.x = b", "b.x = a"), "a"), (("a.x = b", "b.x = c", "c.x = a"), "a"),
    (("a.x = b", "b.x = c", "c.x = d"), None), (("a.x = b + 1", "b.x = a"), None), (("a = b.x + 1", "b = a"), None),
    (("a = a.b + 1",), None), ((". = a + 1",), None), ((". = . + 1",), None),
    (("b = c.y", "c = b.x", "a in 1"), "b"), (("a.q = c", "b = c.y", "c = b.x"), "a.q"),
    (("a.q = c", "b = c.y", "c = b.x", "a.b.c in 1"), "a.q"), (("a.q = c", "d = c.y", "c = d.x"), "a.q"),
    (("a.b.c in 1", "a.b = z", "z = z.q.r"), "a.b"), (("a = b.x", "b = c.x", "c = a.x"), "a"),
    (("m.n = k", "k.o = m"), "k"), (("m.n = k", "k.o = m", "a = b.c"), "k"), (("z = y.a", "y = x.a", "x = z.a"), "x"),
    (("a.x = b", "a.y = b", "b.x = c", "c = d", "d.z = a"), "a"), (("a.x = b", "a.x.c = b.d", "b.c.e = b"), "a.x"),
    (("a = b", "a.x = b.y", "b.x.z = a"), "a"), (("a.x = b.x", "a = b", "b.x.x = b.x.x"), None),
    (("a.x = b", "b = c", "c = a.x"), None), (("p = q", "p.a.b = q.a"), "p.a"),
    (("p = q", "p.a = r", "q.a.b = r"), "p.a"),
    (("a.b.c = d", "d.e = a.b"), "a.b"), (("a.b.c = d", "d.e = a"), "a"), (("a.b.c = d", "d.e = ."), "."),
)

# Tellings and two places, beside the number by which they lie apart.
APART = (
    (("a = b + 3",), "a", "b", 3), (("a = b + 3",), "b", "a", -3), (("a = b + 3",), "a", "a", 0),
    (("a = b - 3",), "a", "b", -3), (("a = b - 3",), "b", "a", 3), (("a = b + 3",), ".", "a", None),
    (("a = b + 3",), ".", ".", None), (("a = b",), "a", "b", None), (("a = b",), "a", "a", None),
    (("a = b", "a = c + 1"), "a", "b", 0), (("a = b", "a = c + 1"), "b", "c", 1),
    (("a = b", "a = c + 1"), "c", "b", -1),
    (("a = b + 1", "b = c + 1", "c = d + 1"), "a", "d", 3), (("a = b + 1", "b = c + 1", "c = d + 1"), "d", "b", -2),
    (("a = b + 1", "c = b + 1"), "a", "c", 0), (("a = b + 1", "c = b + 5"), "a", "c", -4),
    (("a = b + 1", "a = c + 5"), "b", "c", 4), (("a = b + 1", "c = d + 1"), "a", "c", None),
    (("a = b + 1", "c = d + 1", "b = d + 10"), "a", "c", 10), (("a = b + 1", "x in 1"), "a", "x", None),
    (("a = b + 1", "x in 1"), "x", "x", None), (("a = b + 1", "x in 1"), "x", "b", None),
    (("a = b + 1", "a = b + 2"), "a", "b", None), (("a = b + 1", "a = b + 2"), "a", "a", None),
    (("a = b + 1", "b = a + 1"), "a", "b", None), (("a = b + 1", "b = a - 1"), "a", "b", 1),
    (("a = b + 1", "b = a - 1", "a = b + 1"), "b", "a", -1), (("a = a + 1",), "a", "a", None),
    (("a = b + 1", "a = b"), "a", "b", None), (("a = b + 1", "a = b"), "b", "b", None),
    (("a = b + 1", "b = c + 1", "a = c + 2"), "a", "c", 2), (("a = b + 1", "b = c + 1", "a = c + 3"), "a", "b", None),
    (("a = b + 1", "b = c + 1", "a = c + 3", "d = e + 1"), "d", "e", 1),
    (("a = b + 1", "b = c + 1", "a = c + 3", "d = a + 1"), "d", "d", None),
    (("a = b", "a.x = c + 1"), "b.x", "c", 1), (("a = b", "a.x = c + 1", "b.x = d - 1"), "d", "c", 2),
    (("a = b", "a.x = c + 1", "b.x = c + 2"), "c", "c", None), (("a = b", "a.x = b.x + 1"), "a.x", "b.x", None),
    (("a = b + 1", "a.x = c + 7"), "a.x", "c", 7), (("a = b + 1", "a.x = c + 7"), "a", "c", None),
    (("a = b + 100000000000000000000", "b = c + 100000000000000000000"), "a", "c", 2 * 10 ** 20),
    (("a.b.c.d = a.b.c.e - 2",), "a.b.c.e", "a.b.c.d", 2), (("a = b + 1",), "a", "q", None),
    (("a = b + 1",), "q", "q", None),
    (("a = b + 1",), "a.x", "a.x", None), ((), ".", ".", None), ((". = a + 1",), ".", "a", 1),
)


class Places(unittest.TestCase):
    def test_places_and_classes(self):
        for texts, paths, many in PLACES:
            for row in itertools.islice(itertools.permutations(told(*texts)), 24):
                self.assertEqual(shown(places(list(row))), paths, texts)
                found = [shown(one) for one in classes(list(row))]
                self.assertEqual([one for one in found if " " in one], many, texts)
                self.assertEqual(sorted(" ".join(found).split()), sorted(paths.split()), texts)
                firsts = [one[0] for one in classes(list(row))]
                self.assertEqual(firsts, sorted(firsts), texts)
            self.assertIsNone(ring(told(*texts)))

    def test_order(self):
        rows = told("b.a in 1", "ab in 1", "b in 1", "a.z.z in 1", "aa in 1", "a.b in 1", "z in 1", "aaa.a in 1")
        self.assertEqual(shown(places(rows)), ". a a.b a.z a.z.z aa aaa aaa.a ab b b.a z")

    def test_rings(self):
        for texts, found in RINGS:
            for row in itertools.islice(itertools.permutations(told(*texts)), 24):
                self.assertEqual(ring(list(row)), None if found is None else path(found), texts)
            self.assertEqual(ring(told(*texts) * 2), None if found is None else path(found), texts)

    def test_apart(self):
        for texts, one, other, number in APART:
            for row in itertools.islice(itertools.permutations(told(*texts)), 24):
                self.assertEqual(apart(list(row), path(one), path(other)), number, (texts, one, other))

    def test_a_long_group(self):
        names = ["".join(letters) for letters in itertools.product("abcdefgh", repeat=2)][:62]
        row = [("same", ("x", one), ("x", other), 10 ** 20) for one, other in zip(names, names[1:])]
        random.Random(3).shuffle(row)
        self.assertEqual(apart(row, ("x", names[0]), ("x", names[-1])), 61 * 10 ** 20)
        self.assertEqual(apart(row, ("x", names[40]), ("x", names[7])), -33 * 10 ** 20)
        row.append(("same", ("x", names[0]), ("x", names[-1]), 61 * 10 ** 20))
        self.assertEqual(apart(row, ("x", names[0]), ("x", names[1])), 10 ** 20)
        row.append(("same", ("x", names[0]), ("x", names[-1]), 61 * 10 ** 20 + 1))
        self.assertIsNone(apart(row, ("x", names[3]), ("x", names[1])))

    def test_many_classes(self):
        names = ["".join(letters) for letters in itertools.product("abcdefgh", repeat=2)][:40]
        row = [("same", (one,), (other,), 0) for one, other in zip(names, names[1:])] + told("ce.q.r in 1")
        self.assertEqual(classes(row), [[()]] + [[(one,) + tail for one in names] for tail in ((), ("q",), ("q", "r"))])

    def test_rings_with_far_more_paths_than_places(self):
        letters = "abcdefghijklmnopqrstuvwxyz"
        row = [("same", (one, way), (other,), 0) for one, other in zip(letters, letters[1:]) for way in ("l", "r")]
        self.assertIsNone(ring(row))
        self.assertEqual(ring(row + told("z.x.y.z = k")), ("j", "l"))
        self.assertEqual(ring([("same", (one, "x"), (other,), 0) for one, other in zip(letters, letters[1:] + "a")]),
            ("a",))

    def test_places_of_a_ring_are_not_gone_through_without_end(self):
        for call in (places, classes):
            with self.assertRaises(MeetError):
                call(told("a = a.x"))

    def test_by_a_second_way(self):
        chance = random.Random(23)
        for row in chance_rows(chance, 1500, bounded=0):
            found = ring(row)
            self.assertEqual(found, slow_ring(row), row)
            if found is not None:
                continue
            by_place = slow_classes(row)
            self.assertEqual(places(row), sorted(by_place), row)
            self.assertEqual(classes(row), sorted(sorted(one) for one in set(by_place.values())), row)
            one = chance.choice(sorted(by_place))
            group = slow_steps(row, one)
            torn = any(len(numbers) > 1 for numbers in group.values())
            for other in sorted(by_place):
                number = None if torn or other not in group else -min(group[other])
                self.assertEqual(apart(row, one, other), number, (row, one, other))

    def test_groups_by_a_second_way(self):
        chance = random.Random(24)
        for _ in range(1500):
            row = [("same", (chance.choice("abcdef"),), (chance.choice("abcdef"),), chance.choice((0, 1, -1, 2, 3)))
                   for _ in range(chance.randrange(1, 7))]
            for one in places(row):
                group = slow_steps(row, one)
                torn = any(len(numbers) > 1 for numbers in group.values())
                for other in places(row):
                    number = None if torn or other not in group else -min(group[other])
                    self.assertEqual(apart(row, one, other), number, (row, one, other))


class HandedIn(unittest.TestCase):
    ROW = ("a = b", "a.x = c + 1", "b.y in {z: 1}", "b only x y", "a.y wish {}")

    def test_it_stays(self):
        row = told(*self.ROW)
        kept = copy.deepcopy(row)
        places(row)
        classes(row)
        ring(row)
        apart(row, ("a", "x"), ("c",))
        self.assertEqual(row, kept)
        self.assertEqual([show_telling(telling) for telling in row], list(self.ROW))

    def test_told_lists_are_new(self):
        row = told(*self.ROW)
        first = places(row)
        first.clear()
        self.assertEqual(shown(places(row)), ". a a.x a.y b b.x b.y c")
        found = classes(row)
        found[1].append("x")
        found.pop()
        self.assertEqual([shown(one) for one in classes(row)], [".", "a b", "a.x b.x", "a.y b.y", "c"])

    def test_what_becomes_of_the_list(self):
        row = told(*self.ROW)
        found = (places(row), classes(row))
        row.clear()
        self.assertEqual(found, (places(told(*self.ROW)), classes(told(*self.ROW))))


if __name__ == "__main__":
    unittest.main()
