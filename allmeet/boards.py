"""Boards: tellings kept by numbers."""

from allmeet.clashes import least_clash
from allmeet.errors import NoNumber, NoTelling
from allmeet.plainly import plainly
from allmeet.settled import settled
from allmeet.tellings import is_telling
from allmeet.values import is_whole


class Board:
    def __init__(self):
        self.kept = {}
        self.following = 0

    def tell(self, telling):
        if not is_telling(telling):
            raise NoTelling("no telling")
        number = self.following
        self.kept[number] = telling
        self.following = number + 1
        return number

    # Kinds are asked first: True would be found as 1.
    def take_back(self, number):
        if not (is_whole(number) and number in self.kept):
            raise NoNumber("no number of a telling that stands")
        self.kept.pop(number)

    # Numbers are kept as they come, so they rise.
    def standing(self):
        return list(self.kept.items())

    def tellings_kept(self):
        return list(self.kept.values())

    def settled(self):
        return settled(self.tellings_kept())

    def plainly(self):
        return plainly(self.tellings_kept())

    def least_clash(self):
        places = least_clash(self.tellings_kept())
        numbers = list(self.kept)
        return None if places is None else [numbers[place] for place in places]
