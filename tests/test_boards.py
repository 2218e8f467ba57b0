"""Promises 1, 2, 37 and 38: a board keeps tellings by numbers, takes them back, and tells of those that stand."""

import copy
import random
import unittest

from allmeet.boards import Board
from allmeet.clashes import least_clash
from allmeet.errors import MeetError, NoNumber, NoRow, NoSet, NoTelling, NoValue
from allmeet.plainly import plainly
from allmeet.settled import settled
from allmeet.tellings import read_telling
from things import NUMBERS, chance_rows, number, odd_things, raw, some_sets, some_values


def told(*texts):
    return [read_telling(text) for text in texts]


def board_of(*texts):
    board = Board()
    for telling in told(*texts):
        board.tell(telling)
    return board


def outlook(board):
    """All that a board tells."""
    return repr((board.standing(), board.settled(), board.plainly(), board.least_clash()))


class Numbers(unittest.TestCase):
    def test_as_they_come(self):
        board = Board()
        self.assertEqual(board.standing(), [])
        for place, telling in enumerate(told("a in 1", "b in 2", "a in 1", "c = a", ". only a b c")):
            found = board.tell(telling)
            self.assertEqual(repr(found), repr(place))
        self.assertEqual(board.standing(), list(enumerate(told("a in 1", "b in 2", "a in 1", "c = a", ". only a b c"))))

    def test_taken_back(self):
        board = board_of("a in 1", "b in 2", "c in 3", "d in 4")
        self.assertIsNone(board.take_back(1))
        self.assertEqual([place for place, telling in board.standing()], [0, 2, 3])
        self.assertIsNone(board.take_back(3))
        self.assertEqual(board.standing(), [(0, told("a in 1")[0]), (2, told("c in 3")[0])])
        self.assertEqual(board.tell(told("e in 5")[0]), 4)
        self.assertEqual([place for place, telling in board.standing()], [0, 2, 4])
        for place in (4, 0, 2):
            board.take_back(place)
        self.assertEqual(board.standing(), [])
        self.assertEqual(board.tell(told("e in 5")[0]), 5)

    def test_the_same_telling_twice(self):
        board = board_of("a in 1", "a in 1")
        board.take_back(0)
        self.assertEqual(board.standing(), [(1, told("a in 1")[0])])

    def test_many(self):
        board = Board()
        telling = told("a in 1")[0]
        for place in range(300):
            self.assertEqual(board.tell(telling), place)
        for place in range(0, 300, 2):
            board.take_back(place)
        self.assertEqual([place for place, kept in board.standing()], list(range(1, 300, 2)))
        self.assertEqual(board.tell(telling), 300)

    def test_two_boards(self):
        one, other = Board(), Board()
        one.tell(told("a in 1")[0])
        self.assertEqual(other.standing(), [])
        self.assertEqual(other.tell(told("b in 2")[0]), 0)
        self.assertEqual(one.tell(told("c in 3")[0]), 1)
        one.take_back(0)
        self.assertEqual(other.standing(), [(0, told("b in 2")[0])])
        self.assertEqual(one.standing(), [(1, told("c in 3")[0])])


class Refused(unittest.TestCase):
    def refuses(self, refusal, board, call, thing):
        before = outlook(board)
        try:
            found = call(thing)
        except refusal as fault:
            self.assertIsInstance(fault, MeetError)
            self.assertIsInstance(fault, ValueError)
            for other in (NoValue, NoSet, NoTelling, NoNumber, NoRow):
                self.assertEqual(isinstance(fault, other), other is refusal)
        else:
            self.fail(f"{thing!r} is not refused: {found!r}")
        self.assertEqual(outlook(board), before)

    def test_no_tellings(self):
        board = board_of("a in 1", "b in 2")
        board.take_back(1)
        for thing in odd_things() + list(some_values()) + list(some_sets()) + [
            "a in 1", (), ("in",), ("in", ("a",)), ("in", ("a",), number(2, 1)), ("in", ["a"], NUMBERS),
            ["in", ("a",), NUMBERS],
            ("in", ("A",), NUMBERS), ("in", tuple("abcde"), NUMBERS), ("same", ("a",), ("b",), True),
            ("same", ("a",), ("b",)),
            ("only", ("a",), ("b", "a")), ("wish", ("a",), raw([])), ("back", ("a",), NUMBERS),
        ] + [("in", ("a",), thing) for thing in odd_things()]:
            self.refuses(NoTelling, board, board.tell, thing)
        self.assertEqual(board.tell(told("c in 3")[0]), 2)

    def test_no_numbers(self):
        board = board_of("a in 1", "b in 2", "c in 3")
        board.take_back(1)
        for thing in odd_things() + ["0", "", 1, 3, 4, -1, -2, 10 ** 20, -10 ** 20, True, False, (0,), (),
            ("in", ("a",), NUMBERS)]:
            self.refuses(NoNumber, board, board.take_back, thing)
        self.assertIsNone(board.take_back(0))
        self.refuses(NoNumber, board, board.take_back, 0)
        self.assertEqual([place for place, telling in board.standing()], [2])

    def test_none_stands(self):
        board = Board()
        for thing in (0, 1, None, False, -1):
            self.refuses(NoNumber, board, board.take_back, thing)


class Told(unittest.TestCase):
    def test_of_what_stands(self):
        board = board_of("a in 1..5", "b = a", "a in 3", "b in 4")
        self.assertEqual(board.settled(), ("clash", ("a",)))
        self.assertEqual(board.plainly(), ("clash", ("a",)))
        self.assertEqual(board.least_clash(), [1, 2, 3])
        board.take_back(2)
        self.assertEqual(board.settled(), ("met", settled(told("a in 4", "b in 4"))[1]))
        self.assertEqual(board.plainly(), ("plain", ("record", (("a", 4), ("b", 4)))))
        self.assertIsNone(board.least_clash())
        board.take_back(3)
        self.assertEqual(board.plainly(), ("open", [("a",), ("b",)]))
        board.tell(told("b wish 2")[0])
        self.assertEqual(board.plainly(), ("plain", ("record", (("a", 2), ("b", 2)))))
        board.tell(told("b = b.x")[0])
        self.assertEqual(board.settled(), ("ring", ("a",)))
        self.assertEqual(board.plainly(), ("ring", ("a",)))
        self.assertEqual(board.least_clash(), [5])

    def test_an_empty_board(self):
        board = Board()
        self.assertEqual(board.settled(), settled([]))
        self.assertEqual(board.plainly(), ("open", [()]))
        self.assertIsNone(board.least_clash())

    def test_numbers_of_a_clash(self):
        board = board_of("z in 1", "a in 1", "y in 1", "a in 2", "a in 3", "a in 4")
        self.assertEqual(board.least_clash(), [1, 3])
        board.take_back(0)
        self.assertEqual(board.least_clash(), [1, 3])
        board.take_back(3)
        self.assertEqual(board.least_clash(), [1, 4])
        board.take_back(1)
        self.assertEqual(board.least_clash(), [4, 5])
        board.take_back(4)
        self.assertIsNone(board.least_clash())

    def test_what_is_told_and_taken_back_leaves_what_stands(self):
        chance = random.Random(38)
        for row in chance_rows(chance, 150, longest=8):
            board, kept, following = Board(), [], 0
            for telling in row + row[:3]:
                self.assertEqual(board.tell(telling), following)
                kept.append((following, telling))
                following += 1
                if chance.random() < 0.4:
                    place = chance.randrange(len(kept))
                    board.take_back(kept.pop(place)[0])
                tellings = [telling for place, telling in kept]
                self.assertEqual(board.standing(), kept)
                self.assertEqual(repr(board.settled()), repr(settled(tellings)))
                self.assertEqual(repr(board.plainly()), repr(plainly(tellings)))
                least = least_clash(tellings)
                self.assertEqual(board.least_clash(), None if least is None else [kept[place][0] for place in least])


class Kept(unittest.TestCase):
    def test_told_lists_are_new(self):
        board = board_of("a in 1", "a in 2", "b.c wish 1")
        before = outlook(board)
        board.standing().clear()
        board.least_clash().clear()
        self.assertEqual(outlook(board), before)
        board.take_back(0)
        board.take_back(1)
        before = outlook(board)
        board.settled()[1].clear()
        board.standing().append(7)
        self.assertEqual(outlook(board), before)
        board.tell(told("d wish any")[0])
        before = outlook(board)
        board.plainly()[1].clear()
        self.assertEqual(outlook(board), before)

    def test_an_old_list_stays(self):
        board = board_of("a in 1", "b in 2")
        standing = board.standing()
        found = board.settled()
        kept = copy.deepcopy((standing, found))
        board.take_back(0)
        board.tell(told("c in 3")[0])
        self.assertEqual((standing, found), kept)

    def test_tellings_stay(self):
        telling = told("a in {x: 1, .. any}")[0]
        kept = copy.deepcopy(telling)
        board = Board()
        board.tell(telling)
        board.settled()
        self.assertEqual(telling, kept)


if __name__ == "__main__":
    unittest.main()
