"""Promises 1, 2, 33 and 34: whether tellings clash, and some that clash by themselves."""

import copy
import itertools
import random
import unittest

from allmeet.clashes import clashing, least_clash
from allmeet.meets import meet
from allmeet.settled import settled
from allmeet.tellings import read_telling
from things import Search, chance_rows, number, slow_clash


def told(*texts):
    return [read_telling(text) for text in texts]


# Tellings beside the numbers of those that clash by themselves.
LEAST = (
    ((), None), (("a in 1",), None), (("a in 1", "b in 2", "a wish 7"), None),
    (("a = b", "a in 1..5", "b in 5.."), None),
    (("a in nothing",), [0]), ((". in 1",), [0]), (("a = a.b",), [0]), ((". = a",), [0]), (("a = a + 1",), [0]),
    (("a = . + 1",), [0]),
    (("a in nothing", "a in nothing"), [0]), (("b in 1", "a in nothing", "b in 2"), [1]),
    (("b in 1", "b in 2", "a in nothing"), [0, 1]),
    (("a in nothing", "b in 1", "b in 2"), [0]), (("a in 1", "a in 2"), [0, 1]),
    (("a in 1", "a in 2", "a in 3"), [0, 1]),
    (("a in 1", "a in 1", "a in 2"), [0, 2]), (("a in 1", "b in 3", "a in 2", "c in 4"), [0, 2]),
    (("a in 1..5", "a in 3..9", "a in 7"), [0, 2]),
    (("a in 1..5", "a in 3..9", "a in 2 or 7"), [0, 1, 2]), (("a in 1", "b = a", "c = b", "c in 2"), [0, 1, 2, 3]),
    (("a in 1", "b = a", "c = b", "c = a", "c in 2"), [0, 1, 2, 4]),
    (("a in 1", "c = a", "b = a", "c = b", "c in 2"), [0, 1, 4]),
    (("a = b + 1", "b = c + 1", "c = a + 1"), [0, 1, 2]), (("a = b + 1", "a = b + 2"), [0, 1]),
    (("a = b + 1", "a in text"), [0, 1]),
    (("a = b + 1", "a.x wish 1"), [0, 1]), (("a wish 1", "a.x wish 1", "a = b"), None),
    (("a in 1", "a.x wish nothing"), [0, 1]),
    (("a only x", "a.x in 1", "a.y wish 1"), [0, 2]), (("a in {x?: nothing}", "a.x in any"), [0, 1]),
    (("x.y wish 1", ". only y"), [0, 1]),
    (("a.x = b", "b.x = c", "c.x = a"), [0, 1, 2]), (("a.x = b", "a in 1", "b.x = c", "c.x = a"), [0, 1]),
    (("a.x = b", "b.x = c", "c.x = a", "a in 1"), [0, 1, 2]),
    (("a = b", "b = a.x", "a in 1"), [0, 1]), (("b = a.x", "a in 1", "a = b"), [0, 1]),
    (("a in {x: 1}", "a = b", "b.x = c", "c in 2", "c in 1 or 3"), [0, 1, 2, 3]),
)


def slow_least(row):
    """Point 34, gone through from the last to the first."""
    staying = list(range(len(row)))
    if slow_clash(row, meet) is None:
        return None
    for last in staying[::-1]:
        others = [other for other in staying if other != last]
        if slow_clash([row[other] for other in others], meet) is not None:
            staying = others
    return staying


def by_its_words(case, row, numbers):
    """Whether the told tellings clash by themselves and none of them can be left out."""
    if numbers is None:
        case.assertEqual(settled(row)[0], "met", row)
        return
    case.assertEqual(numbers, sorted(set(numbers)))
    case.assertTrue(set(numbers) <= set(range(len(row))))
    case.assertNotEqual(settled([row[place] for place in numbers])[0], "met", row)
    for place in numbers:
        case.assertEqual(settled([row[other] for other in numbers if other != place])[0], "met", (row, place))


class Tables(unittest.TestCase):
    def test_least(self):
        for texts, numbers in LEAST:
            row = told(*texts)
            self.assertEqual(least_clash(row), numbers, texts)
            self.assertIs(clashing(row), numbers is not None, texts)
            self.assertEqual(slow_least(row), numbers, texts)

    def test_all_orders(self):
        for texts, numbers in LEAST:
            for row in itertools.permutations(told(*texts)):
                by_its_words(self, list(row), least_clash(list(row)))
                self.assertEqual(least_clash(list(row)), slow_least(list(row)), row)

    def test_many(self):
        names = ["".join(letters) for letters in itertools.product("abcdefgh", repeat=2)][:60]
        row = [("same", (one,), (other,), 0) for one, other in zip(names, names[1:])]
        self.assertIsNone(least_clash(row))
        self.assertEqual(least_clash(row + told("aa in 1", "hd in 2")), list(range(61)))
        self.assertEqual(least_clash(told("aa in 1", "hd in 2") + row), list(range(61)))
        self.assertEqual(least_clash(row + told("ad in 1", "af in 2", "hd in 3")), [3, 4, 59, 60])

    def test_parts_with_far_more_places(self):
        letters = "abcdefghijklmnopqrstuvwxyz"
        row = [("same", (one, way), (other,), 0) for one, other in zip(letters, letters[1:]) for way in ("l", "r")]
        self.assertIs(clashing(row), False)
        self.assertIsNone(least_clash(row))
        row.append(("same", ("z", "x"), ("a",), 0))
        self.assertIs(clashing(row), True)
        self.assertEqual(least_clash(row), list(range(0, 51, 2)))


class SecondWays(unittest.TestCase):
    def test_by_chance(self):
        chance = random.Random(34)
        for row in chance_rows(chance, 800, longest=8, bounded=0.2):
            numbers = least_clash(row)
            self.assertIs(clashing(row), numbers is not None, row)
            self.assertEqual(numbers, slow_least(row), row)
            by_its_words(self, row, numbers)

    def test_chains(self):
        chance = random.Random(37)
        seen = 0
        for _ in range(600):
            row = []
            for _ in range(chance.randrange(3, 9)):
                one, other = chance.sample((("a",), ("b",), ("c",), ("d",), ("e", "x"), ("f", "x")), k=2)
                low = chance.randrange(4)
                row.append(chance.choice((("same", one, other, 0), ("same", one, other, chance.choice((-1, 1, 2))),
                                          ("in", one, number(low, low + 3)), ("same", one[:1], other[:1], 0))))
            numbers = least_clash(row)
            self.assertEqual(numbers, slow_least(row), row)
            by_its_words(self, row, numbers)
            seen += numbers is not None and len(numbers) > 2
        self.assertGreater(seen, 100)

    def test_by_a_search_through_plain_values(self):
        search = Search()
        for row in chance_rows(random.Random(35), 1500, bounded=1):
            self.assertIs(clashing(row), search.fulfilling(row) == 0, row)


class HandedIn(unittest.TestCase):
    def test_it_stays(self):
        for row in chance_rows(random.Random(36), 100):
            kept = copy.deepcopy(row)
            clashing(row)
            least_clash(row)
            self.assertEqual(repr(row), repr(kept))

    def test_told_lists_are_new(self):
        row = told("a in 1", "b in 1", "a in 2")
        found = least_clash(row)
        found.clear()
        self.assertEqual(least_clash(row), [0, 2])
        found = least_clash(row)
        row.clear()
        self.assertEqual(found, [0, 2])


if __name__ == "__main__":
    unittest.main()
