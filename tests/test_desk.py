"""Promises 1, 39 and the interface of the desk: its rows, their answers, and what is refused."""

import itertools
import random
import re
import unittest

from allmeet.boards import Board
from allmeet.desk import Desk
from allmeet.errors import MeetError, NoNumber, NoRow, NoSet, NoTelling, NoValue
from allmeet.setnotes import show_set
from allmeet.tellings import show_telling
from allmeet.valuenotes import show_value
from things import chance_rows, odd_things, some_sets, some_values

# Rows as they are said one behind the other, each with its answer.
TALKS = (
    (("rows", "0"), ("clash", "none"), ("plain", "open ."), ("at .", "{.. any}"), ("at a", "no place"),
    ("at a.b.c.d", "no place")),
    (("tell a in 1..5", "0"), ("tell b = a", "1"), ("rows", "2"), ("at a", "1..5"), ("at b", "1..5"),
    ("at c", "no place"), ("at a.x", "no place"), ("at .", "{a: 1..5, b: 1..5, .. any}"), ("plain", "open a b"),
    ("tell a wish 3..", "2"), ("plain", "open a b"), ("tell b wish 3", "3"), ("plain", "{a: 3, b: 3}"),
    ("tell b in 7", "4"), ("plain", "clash a"), ("at a", "clash a"), ("at zzz", "clash a"), ("at .", "clash a"),
    ("clash", "0 1 4"), ("rows", "5"), ("back 1", "ok"), ("rows", "4"), ("clash", "none"), ("plain", "open a"),
    ("at b", "7"), ("back 4", "ok"), ("back 0", "ok"), ("plain", "open a"), ("back 2", "ok"), ("at a", "no place"),
    ("plain", "{b: 3}"), ("tell a in text", "5"), ("rows", "2"), ("at a", "text")),
    (("tell a.x in {y: 1, .. any}", "0"), ("tell b = a", "1"), ("tell b.x.z in text", "2"),
    ("at b.x", "{y: 1, z: text, .. any}"), ("at a.x.z", "text"), ("at a.x.y", "no place"),
    ("plain", "open a.x.z b.x.z"), ("tell a.x.z wish \"q\"", "3"),
    ("plain", '{a: {x: {y: 1, z: "q"}}, b: {x: {y: 1, z: "q"}}}'), ("tell a = b.x", "4"), ("plain", "ring a"),
    ("at .", "ring a"), ("at q", "ring a"), ("clash", "1 4"), ("back 1", "ok"), ("clash", "none"),
    ("plain", "open a.z b.x.z"), ("tell a.z wish \"r\"", "5"),
     ("plain", '{a: {x: {y: 1, z: "q"}, z: "r"}, b: {x: {x: {y: 1, z: "q"}, z: "r"}}}')),
    (("tell . only a b", "0"), ("tell c wish 1", "1"), ("at .", "clash c"), ("clash", "0 1"), ("back 1", "ok"),
    ("at .", "{a?: any, b?: any}"), ("plain", "open ."), ("tell . wish {}", "2"), ("plain", "{}"),
    ("tell . in {a: truth}", "3"), ("plain", "open ."), ("tell a in true", "4"), ("plain", "{a: true}")),
    (("tell . = a", "0"), ("plain", "ring ."), ("at a", "ring ."), ("clash", "0"), ("back 0", "ok"),
    ("tell . in 1", "1"), ("plain", "clash ."), ("at .", "clash .")),
    (("tell a = b + 3", "0"), ("tell b in 1..2 or text", "1"), ("at a", "4..5"), ("at b", "1..2"),
    ("tell a = b - 1", "2"), ("at a", "clash a"), ("clash", "0 2"), ("back 0", "ok"), ("at a", "0..1")),
    (("tell a in {x?: nothing}", "0"), ("tell a.x in any", "1"), ("at a", "clash a.x"), ("plain", "clash a.x"),
    ("clash", "0 1")),
    (("tell a.b.c.d = x", "0"), ("tell x.e.f.g in nothing", "1"), ("plain", "clash a.b.c.d.e.f.g"),
    ("at x", "clash a.b.c.d.e.f.g"), ("back 1", "ok"), ("tell x.e.f.g in 1 or 3 or [.. any]", "2"),
    ("plain", "open a.b.c.d.e.f.g x.e.f.g"), ("at x.e.f", "{g: (1 or 3 or [.. any]), .. any}")),
    (("tell tell in 1", "0"), ("tell back.at = rows", "1"), ("tell plain only clash", "2"), ("at tell", "1"),
    ("at back.at", "any"), ("at plain", "{clash?: any}")),
)

NO_ROWS = (
    "", " ", "\n", ".", "a", "a in 1", "tell", "Tell a in 1", "TELL a in 1", "tella in 1", " tell a in 1",
    "tell\ta in 1", "tell\na in 1", "told a in 1", "tel a in 1",
    "tell\n", "back", "back ", "back a", "back  0", "back 0 ", " back 0", "Back 0", "back 00", "back 01", "back 007",
    "back -0", "back -1", "back +1", "back 1234567",
    "back 0000001", "back 1000000", "back 9999999", "back 1.0", "back 1 2", "back 0 1", "back 0\n", "back\t0", "back0",
    "back \u0660", "back \uff10", "back 1_0", "back 0x0",
    "back " + "9" * 5000, "back " + "0" * 100000, "back true", "back \"0\"", "back 1e1", "back ..", "back 0..1",
    "backs 0", "take_back 0",
    "at", "at ", "at  a", "at a ", " at a", "At a", "at A", "at 1", "at a.", "at .a", "at ..", "at a..b", "at a b",
    "at a, b", "at a.b.c.d.e", "at a.b.c.d.", "at a\n", "at\ta",
    "at a.B", "at \u00e9", "at a/b", "at \"a\"", "at a.1", "ata", "at.", "at . ", "at .\n", "at a in 1", "at ()",
    "plain ", " plain", "Plain", "plain\n", "plainly", "plai", "plain .", "plain a", "plain 0", "clash ", " clash",
    "clash\n", "clashes", "clas", "Clash", "clash 0", "clash a", "least_clash",
    "rows ", " rows", "row", "rows\n", "Rows", "rows 0", "rowss", "rows a", "none", "ok", "open .", "settled",
    "standing", "help", "0", "#", "\0", "\ud800", "\ufeffrows", "rows\r", "rows;",
)

NO_TELLINGS = (
    "tell ", "tell  ", "tell  a in 1", "tell a in 1 ", "tell a", "tell a in", "tell a in x", "tell a is 1",
    "tell tell a in 1", "tell A in 1", "tell a.b.c.d.e in 1", "tell a = b + 0",
    "tell a only b a", "tell a in 5..3", "tell a in 1\n", "tell \n", "tell a in (1 or 2)", "tell rows", "tell plain",
    "tell a wish", "tell a = b + 01", "tell a in " + "1" * 41,
    "tell a in " + "[" * 90000, "tell 0", "tell .", "tell a in {a: 1, a: 1}", "tell \0",
)


def outlook(desk):
    return [desk.say(row) for row in ("rows", "plain", "clash", "at .", "at a", "at b")]


class Talks(unittest.TestCase):
    def test_talks(self):
        for talk in TALKS:
            desk = Desk()
            for row, answer in talk:
                self.assertEqual(desk.say(row), answer, (talk[0], row))

    def test_two_desks(self):
        desks = [Desk() for talk in TALKS]
        for rows in itertools.zip_longest(*TALKS):
            for desk, row in zip(desks, rows):
                if row is not None:
                    self.assertEqual(desk.say(row[0]), row[1])

    def test_asking_changes_nothing(self):
        desk = Desk()
        for row in ("tell a in 1..2", "tell b.c wish 1", "tell d = a + 1"):
            desk.say(row)
        before = outlook(desk)
        for row in ("rows", "plain", "clash", "at .", "at a", "at q", "rows"):
            desk.say(row)
        self.assertEqual(outlook(desk), before)
        self.assertEqual(desk.say("tell e in 1"), "3")

    def test_numbers_of_more_figures(self):
        desk = Desk()
        for number in range(1005):
            self.assertEqual(desk.say("tell . wish {}"), str(number))
        for number in ("1004", "100", "99", "10", "9"):
            self.assertEqual(desk.say("back " + number), "ok")
        self.assertEqual(desk.say("rows"), "1000")
        self.assertEqual(desk.say("tell . wish {}"), "1005")

    def test_all_kinds_of_tellings(self):
        for row in chance_rows(random.Random(39), 150):
            desk, board = Desk(), Board()
            for telling in row:
                self.assertEqual(desk.say("tell " + show_telling(telling)), str(board.tell(telling)))
            self.assertEqual(desk.say("rows"), str(len(row)))
            for place in range(0, len(row), 3):
                self.assertEqual(desk.say("back " + str(place)), "ok")
                board.take_back(place)
            self.as_the_board(desk, board)

    def as_the_board(self, desk, board):
        def written(path):
            return ".".join(path) or "."

        self.assertEqual(desk.say("rows"), str(len(board.standing())))
        least = board.least_clash()
        self.assertEqual(desk.say("clash"), "none" if least is None else " ".join(map(str, least)))
        word, found = board.plainly()
        if word == "plain":
            self.assertEqual(desk.say("plain"), show_value(found))
        else:
            paths = found if word == "open" else [found]
            self.assertEqual(desk.say("plain"), " ".join([word] + [written(path) for path in paths]))
        word, found = board.settled()
        sets = dict(found) if word == "met" else {}
        for path in [path for path in sets if len(path) < 5] + [(), ("q",), ("a", "q")]:
            there = show_set(sets[path]) if path in sets else "no place"
            self.assertEqual(desk.say("at " + written(path)), there if word == "met" else word + " " + written(found))


class Refused(unittest.TestCase):
    def setUp(self):
        self.desk = Desk()
        for row in ("tell a in 1..5", "tell b = a + 1", "tell a wish 7", "back 2", "tell c.d in 4"):
            self.desk.say(row)
        self.before = outlook(self.desk)

    def refuses(self, refusal, row):
        try:
            answer = self.desk.say(row)
        except refusal as fault:
            self.assertIsInstance(fault, MeetError)
            self.assertIsInstance(fault, ValueError)
            for other in (NoValue, NoSet, NoTelling, NoNumber, NoRow):
                self.assertEqual(isinstance(fault, other), other is refusal)
        else:
            self.fail(f"{row!r} is answered: {answer!r}")

    def changes_nothing(self):
        self.assertEqual(outlook(self.desk), self.before)
        self.assertEqual(self.desk.say("tell z in 1"), "4")

    def test_no_texts(self):
        for thing in odd_things() + [thing for thing in some_sets() + some_values() if not isinstance(thing, str)]:
            self.refuses(NoRow, thing)
        for thing in (0, 1, True, (), ("rows",), ["rows"], b"rows", ("tell", "a in 1")):
            self.refuses(NoRow, thing)
        self.changes_nothing()

    def test_no_rows(self):
        for row in NO_ROWS:
            self.refuses(NoRow, row)
        self.changes_nothing()

    def test_no_tellings(self):
        for row in NO_TELLINGS:
            self.refuses(NoTelling, row)
        self.changes_nothing()

    def test_no_numbers(self):
        for row in ("back 2", "back 4", "back 5", "back 10", "back 999999", "back 100000"):
            self.refuses(NoNumber, row)
        self.assertEqual(self.desk.say("back 0"), "ok")
        self.refuses(NoNumber, "back 0")
        self.assertEqual(self.desk.say("rows"), "2")
        self.assertEqual(self.desk.say("tell z in 1"), "4")

    def test_changed_by_one_sign(self):
        rows = ("rows", "plain", "clash", "at .", "at a", "at a.b", "at a.b.c.d", "back 0", "back 77", "tell a in 1",
            "tell a = b + 1", "tell . only a b")
        seen = {}
        for row in rows:
            for place in range(len(row) + 1):
                seen[row[:place] + row[place + 1:]] = True
                for sign in " .ab01-+=\n":
                    seen[row[:place] + sign + row[place:]] = True
                    seen[row[:place] + sign + row[place + 1:]] = True
        for row in seen:
            self.told_apart(row)

    def told_apart(self, row):
        path = r"(?:\.|[a-z]+(?:\.[a-z]+){0,3})"
        same = rf"{path} = {path}(?: [+-] [1-9][0-9]*)?"
        telling = rf"{path} in (?:0|-?[1-9][0-9]*)(?:\.\.)?|{same}|{path} only((?: [a-z]+)*)"
        self.setUp()
        found = re.fullmatch(rf"tell (?:{telling})", row)
        names = (found[1] or "").split() if found else []
        if row.startswith("tell ") and (found is None or names != sorted(set(names))):
            self.refuses(NoTelling, row)
        elif found:
            self.assertEqual(self.desk.say(row), "4")
        elif re.fullmatch(r"back (?:0|[1-9][0-9]{0,5})", row):
            if row in ("back 0", "back 1", "back 3"):
                self.assertEqual(self.desk.say(row), "ok")
            else:
                self.refuses(NoNumber, row)
        elif re.fullmatch(rf"at {path}|rows|plain|clash", row):
            self.assertIsInstance(self.desk.say(row), str)
        else:
            self.refuses(NoRow, row)


if __name__ == "__main__":
    unittest.main()
