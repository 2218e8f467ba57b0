"""The desk: a board that is told rows and answers each by a text."""

from allmeet.boards import Board
from allmeet.errors import NoRow, NoTelling, NoValue
from allmeet.setnotes import show_set
from allmeet.tellings import read_path, read_telling, show_path
from allmeet.valuenotes import number_at, show_value

MOST_FIGURES = 6


class Desk:
    def __init__(self):
        self.board = Board()

    def say(self, row):
        if not isinstance(row, str):
            raise NoRow("no text")
        if row.startswith("tell "):
            return str(self.board.tell(read_telling(row[len("tell "):])))
        if row.startswith("back "):
            self.board.take_back(read_number(row[len("back "):]))
            return "ok"
        if row.startswith("at "):
            return show_place(self.board.settled(), read_place(row[len("at "):]))
        if row == "plain":
            return show_outcome(self.board.plainly())
        if row == "clash":
            return show_clash(self.board.least_clash())
        if row == "rows":
            return str(len(self.board.standing()))
        raise NoRow("no row")


def read_number(text):
    if len(text) > MOST_FIGURES or text.startswith("-"):
        raise NoRow("no number of one to six figures")
    try:
        found = number_at(text, 0)
    except NoValue as fault:
        raise NoRow("no number") from fault
    if found[1] != len(text):
        raise NoRow("something stands behind the number")
    return found[0]


def read_place(text):
    try:
        return read_path(text)
    except NoTelling as fault:
        raise NoRow("no path") from fault


def show_place(outcome, path):
    if outcome[0] != "met":
        return show_outcome(outcome)
    sets = dict(outcome[1])
    return show_set(sets[path]) if path in sets else "no place"


def show_outcome(outcome):
    if outcome[0] == "plain":
        return show_value(outcome[1])
    if outcome[0] == "open":
        return " ".join(["open"] + [show_path(path) for path in outcome[1]])
    return outcome[0] + " " + show_path(outcome[1])


def show_clash(numbers):
    return "none" if numbers is None else " ".join([str(number) for number in numbers])
