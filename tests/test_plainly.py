"""Promises 1, 2, 30 to 32: the plain value that tellings and wishes choose, or the places that are open."""

import copy
import itertools
import random
import unittest

from allmeet.meets import meet
from allmeet.plainly import plainly
from allmeet.sets import set_of
from allmeet.settled import settled
from allmeet.tellings import read_telling
from allmeet.valuenotes import show_value
from allmeet.values import is_value
from allmeet.within import first_value, how_many
from things import NONE, Search, chance_rows, number, obeys, shifted, slow_classes, slow_steps


def told(*texts):
    return [read_telling(text) for text in texts]


def shown(outcome):
    if outcome[0] == "plain":
        return show_value(outcome[1])
    paths = outcome[1] if outcome[0] == "open" else [outcome[1]]
    return " ".join([outcome[0]] + [".".join(path) or "." for path in paths])


CHOSEN = (
    # Without wishes.
    ((), "open ."), ((". in {}",), "{}"), ((". only",), "{}"), ((". only a",), "open ."),
    ((". in {a: 1, b: true}",), "{a: 1, b: true}"),
    ((". in {a: 1, .. any}",), "open ."), ((". in {a: 1, b?: 2}",), "open ."), (("a in 1",), "{a: 1}"),
    (("a in 1..2",), "open a"),
    (("a in 1", "b in text", "c.x in any", "c.y in 2"), "open b c.x"),
    (("a in 1", "b in \"x\"", "c.x in true"), '{a: 1, b: "x", c: {x: true}}'),
    (("a in [1, 2]",), "{a: [1, 2]}"), (("a in []",), "{a: []}"), (("a in [.. 1]",), "open a"),
    (("a in {x: 1}",), "{a: {x: 1}}"),
    (("a in {x: 1, .. any}",), "open a"), (("a in {x?: 1}",), "open a"),
    (("a in {x: 1, .. any}", "a.x wish 5"), "{a: {x: 1}}"),
    (("a in {x: 1, .. any}", "a.y in 2"), "{a: {x: 1, y: 2}}"), (("a in {x: 1..2, .. any}", "a.y in 2"), "open a"),
    (("a in {x: 1..2, z: 3, .. any}", "a.y in 2..3"), "open a a.y"),
    (("a in {w: 1, x: 1, z: {q: []}, .. any}", "a.y in 2"), "{a: {w: 1, x: 1, y: 2, z: {q: []}}}"),
    (("a in {x?: 1..2, .. text}", "a.y in any", "b in 1"), "open a.y"),
    ((". in {x: 1..2, .. any}", "a in 2"), "open ."),
    ((". in {x: 1, .. any}", "a in 2"), "{a: 2, x: 1}"),
    ((". in {x: number, a: {y: text, .. any}, .. any}", "a.b in 1..2"), "open . a a.b"),
    (("a = b", "a in 1..5", "b in 5..9"), "{a: 5, b: 5}"), (("a = b", "a in 1..5"), "open a b"),
    (("a = b + 1", "b in 1"), "{a: 2, b: 1}"),
    (("a = b + 1",), "open a b"), (("a = b", "a.x in 1", "b.y in 2"), "{a: {x: 1, y: 2}, b: {x: 1, y: 2}}"),
    (("a only x", "a.x in 1"), "{a: {x: 1}}"),
    (("a only x y", "a.x in 1"), "{a: {x: 1}}"), (("a only",), "{a: {}}"), (("a only x",), "open a"),
    (("a in truth", "a in true or 1", "a in text or true"), "{a: true}"),
    # Rings and clashes.
    (("a in nothing",), "clash a"), (("a in {x?: nothing}", "a.x wish 1"), "clash a.x"), (("a = a.b",), "ring a"),
    ((". = a",), "ring ."),
    (("a in 1", "a in 2", "a wish 1"), "clash a"), (("a wish 1", "a.b wish 1", "a = b + 1"), "clash a"),
    # Wishes that agree, and such as meet in nothing.
    (("a wish 3",), "{a: 3}"), (("a in 1..5", "a wish 3"), "{a: 3}"), (("a in 1..5", "a wish 5..9"), "{a: 5}"),
    (("a in 1..5", "a wish 4..9"), "open a"),
    (("a in 1..5", "a wish 7"), "open a"), (("a in 1", "a wish 7"), "{a: 1}"),
    (("a in 1..5", "a wish 2..4", "a wish 4.."), "{a: 4}"),
    (("a in 1..5", "a wish 2", "a wish 4"), "open a"), (("a in 3", "a wish 2", "a wish 4"), "{a: 3}"),
    (("a in 1..5", "a wish 2", "a wish 2 or 9"), "{a: 2}"),
    (("a in 1..5", "a wish 2", "a wish nothing"), "open a"), (("a in 1..5", "a wish 2", "a wish any"), "{a: 2}"),
    (("a in 1..5", "a wish 2", "a wish text"), "open a"),
    (("a in 1..5", "a wish 2..3", "a wish 3..7", "a wish 3"), "{a: 3}"), (("a wish text",), "open a"),
    (("a wish \"x\" or 1", "a in text"), '{a: "x"}'),
    (("a = b", "a wish 3", "b in 1..5"), "{a: 3, b: 3}"), (("a = b", "a wish 2..3", "b wish 3..4"), "{a: 3, b: 3}"),
    (("a = b", "a wish 2", "b wish 4"), "open a b"),
    (("a wish {}",), "{a: {}}"), (("a wish {x: 1}",), "{a: {x: 1}}"), (("a wish {x: 1, .. any}",), "open a"),
    ((". wish {}",), "{}"), ((". wish {a: 1}",), "{a: 1}"),
    ((". wish 1",), "open ."), ((". wish 1", ". in {}"), "{}"), (("a in {x: 1..2}", "a wish {x: 2}"), "{a: {x: 2}}"),
    (("a in {x?: 1}", "a wish {}"), "{a: {}}"),
    (("a in {x?: 1}", "a wish {x: any}"), "{a: {x: 1}}"), (("a in [.. 1]", "a wish [any, any]"), "{a: [1, 1]}"),
    (("a wish [1, {x: true}]",), "{a: [1, {x: true}]}"),
    # Wishes that are moved within a group.
    (("a = b + 3", "b wish 1"), "{a: 4, b: 1}"), (("a = b + 3", "a wish 1"), "{a: 1, b: -2}"),
    (("a = b - 3", "a wish 1"), "{a: 1, b: 4}"),
    (("a = b + 3", "a wish 1..5", "b wish 2..9"), "{a: 5, b: 2}"), (("a = b + 3", "a wish 1", "b wish 2"), "open a b"),
    (("a = b + 3", "b wish 1 or text"), "{a: 4, b: 1}"),
    (("a = b + 3", "b wish text", "a wish 1"), "open a b"), (("a = b + 3", "b wish text", "b in 1"), "{a: 4, b: 1}"),
    (("a = b + 3", "b wish any", "a wish 1"), "{a: 1, b: -2}"),
    (("a = b + 1", "b = c + 1", "c = d + 1", "d wish ..4", "a wish 7..", "c in number"), "{a: 7, b: 6, c: 5, d: 4}"),
    (("a = b + 1", "b in 1..5", "a wish 9"), "open a b"),
    (("a = b + 1", "c = b", "d = a", "c wish 8"), "{a: 9, b: 8, c: 8, d: 9}"),
    (("a = b + 1", "c = b", "c wish 8", "b wish 7..8", "a wish 9..12"), "{a: 9, b: 8, c: 8}"),
    (("a = b + 1", "c = b + 1", "c wish 8"), "{a: 8, b: 7, c: 8}"),
    (("a = b + 3", "b wish nothing", "a wish 1"), "open a b"), (("a = b + 3", "b wish {} or 1"), "{a: 4, b: 1}"),
    (("a.x = b + 1", "c = a", "c.x wish 3"), "{a: {x: 3}, b: 2, c: {x: 3}}"),
    (("a = b + 1", "a wish 5", "c = d + 1", "d in 2"), "{a: 5, b: 4, c: 3, d: 2}"),
    # Wishes at places with fields.
    (("a.x in 1", "a wish {x: 1, y: 2}"), "{a: {x: 1}}"), (("a.x in 1", "a wish 7"), "{a: {x: 1}}"),
    (("a.x in 1..2", "a wish {x: 1}"), "open a.x"),
    (("a.x in 1..2", "a wish {x: 1}", "a.x wish 2"), "{a: {x: 2}}"), ((". wish {a: 1}", "a in 1..2"), "open a"),
    ((". wish {a: 1}", "a wish 2"), "{a: 2}"),
    (("a.b wish {c: 1}", "a.b.c in 1..2"), "open a.b.c"),
    (("a in {x: 1..2, .. any}", "a.y in 1", "a wish {x: 1, .. any}"), "open a"),
    (("a.x wish 1", "a wish nothing"), "{a: {x: 1}}"),
    (("a = b", "b wish {x: 2}", "a.x in 1..3"), "open a.x b.x"), (("a wish 1", "a.x wish 2"), "{a: {x: 2}}"),
)


def slow_plainly(tellings):
    """Points 30 to 32, place by place."""
    outcome = settled(tellings)
    if outcome[0] != "met":
        return outcome
    sets, found = dict(outcome[1]), slow_classes(tellings)
    fields = {path: [other for other in sets if other and other[:-1] == path] for path in sets}

    def wished(path):
        group = slow_steps(tellings, path)
        some = "any"
        for telling in tellings:
            if telling[0] == "wish" and telling[1] in found[path]:
                some = meet(some, telling[2])
            elif telling[0] == "wish" and telling[1] in group:
                some = meet(some, shifted(telling[2], -min(group[telling[1]])))
        met = meet(some, sets[path])
        return sets[path] if met == NONE else met

    def others(path):
        names = [other[-1] for other in fields[path]]
        return [(name, some) for name, must, some in sets[path][4][0] if must and name not in names]

    def is_open(path):
        if fields[path]:
            return any(how_many(some) != 1 for name, some in others(path))
        return how_many(wished(path)) != 1

    def value(path):
        if not fields[path]:
            return first_value(wished(path))
        pairs = [(other[-1], value(other)) for other in fields[path]] + [(name, first_value(some)) for name,
            some in others(path)]
        return ("record", tuple(sorted(pairs)))

    unsure = [path for path in sorted(sets) if is_open(path)]
    return ("open", unsure) if unsure else ("plain", value(()))


def narrowing(path, value):
    """Tellings that leave only this value at a path: of records, their names and all that they have."""
    if not (isinstance(value, tuple) and value[0] == "record"):
        return [("in", path, set_of(value))] * 2
    inner = [telling for name, there in value[1] for telling in narrowing(path + (name,), there)]
    return [("only", path, tuple(name for name, there in value[1]))] * 2 + inner


class Tables(unittest.TestCase):
    def test_chosen(self):
        for texts, words in CHOSEN:
            row = told(*texts)
            for some in itertools.islice(itertools.permutations(row), 24):
                self.assertEqual(shown(plainly(list(some))), words, texts)
            self.assertEqual(shown(plainly(row + row)), words, texts)
            self.assertEqual(repr(slow_plainly(row)), repr(plainly(row)), texts)

    def test_kinds(self):
        self.assertEqual(plainly(told("a in 1")), ("plain", ("record", (("a", 1),))))
        self.assertEqual(plainly(told("a in any", "b.c wish text")), ("open", [("a",), ("b", "c")]))
        self.assertEqual(repr(plainly(told("a in true", "b in 1"))), "('plain', ('record', (('a', True), ('b', 1))))")
        self.assertEqual(plainly(told("a.b in nothing")), ("clash", ("a", "b")))
        self.assertEqual(plainly(told("a.b = a")), ("ring", ("a",)))

    def test_a_chosen_value_fulfils_all(self):
        for texts, words in CHOSEN:
            outcome = plainly(told(*texts))
            if outcome[0] == "plain":
                self.assertIs(is_value(outcome[1]), True)
                for telling in told(*texts):
                    self.assertIs(obeys(outcome[1], telling), True, (texts, telling))

    def test_a_long_group(self):
        names = ["".join(letters) for letters in itertools.product("abcdefgh", repeat=2)][:60]
        row = [("same", (one,), (other,), 3) for one, other in zip(names, names[1:])]
        self.assertEqual(plainly(row)[0], "open")
        outcome = plainly(row + [("wish", (names[30],), number(None, 0)), ("wish", (names[59],), number(-87, 5))])
        self.assertEqual(outcome, ("plain", ("record",
            tuple((name, 90 - 3 * place) for place, name in enumerate(names)))))


class SecondWays(unittest.TestCase):
    def test_place_by_place(self):
        seen = {"plain": 0, "open": 0, "clash": 0, "ring": 0}
        for row in chance_rows(random.Random(31), 2500, bounded=0.3):
            outcome = plainly(row)
            seen[outcome[0]] += 1
            self.assertEqual(repr(outcome), repr(slow_plainly(row)), row)
            if outcome[0] == "plain":
                self.assertTrue(all(obeys(outcome[1], telling) for telling in row), row)
        self.assertGreater(min(seen.values()), 50)

    def test_wishes(self):
        chance = random.Random(33)
        seen = 0
        for row in chance_rows(chance, 1500, longest=4, bounded=0.3):
            paths = [path for path, some in settled(row)[1]] if settled(row)[0] == "met" else [()]
            for _ in range(chance.randrange(4)):
                low = chance.randrange(-1, 3)
                path = chance.choice([path for path in paths if len(path) < 5])
                row.append(("wish", path, chance.choice((number(low, low + 1), number(low, low), number(low, None)))))
            outcome = plainly(row)
            seen += outcome[0] == "plain"
            self.assertEqual(repr(outcome), repr(slow_plainly(row)), row)
        self.assertGreater(seen, 50)

    def test_where_one_value_is_left_it_is_told(self):
        search = Search()
        chance = random.Random(32)
        seen = 0
        for row in chance_rows(chance, 1500, longest=3, bounded=1):
            values = search.plain_values(search.fulfilling(row))
            if values:
                row += chance.sample(narrowing((), chance.choice(values)), k=2)
                row += narrowing((), chance.choice(values))[chance.randrange(3):]
                values = search.plain_values(search.fulfilling(row))
            if len(values) == 1:
                seen += 1
                self.assertEqual(repr(plainly(row)), repr(("plain", values[0])), row)
        self.assertGreater(seen, 100)


class HandedIn(unittest.TestCase):
    def test_it_stays(self):
        for row in chance_rows(random.Random(34), 100):
            kept = copy.deepcopy(row)
            outcome = plainly(row)
            self.assertEqual(repr(row), repr(kept))
            self.assertEqual(repr(plainly(row)), repr(outcome))

    def test_told_lists_are_new(self):
        row = told("a in any", "b in any")
        first = plainly(row)
        first[1].clear()
        self.assertEqual(shown(plainly(row)), "open a b")
        found = plainly(row)
        row.clear()
        self.assertEqual(shown(found), "open a b")


if __name__ == "__main__":
    unittest.main()
