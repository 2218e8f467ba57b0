"""Clashes: whether tellings clash, and some of them that clash by themselves."""

from allmeet.places import Web
from allmeet.settled import sets_left
from allmeet.sets import NOTHING


# Goes by classes alone: some of the tellings may have far more places than all
# of them have, where all of them have a ring.
def clashing(tellings):
    web = Web(tellings)
    return web.has_ring() or NOTHING in list(sets_left(web, tellings).values())


def least_clash(tellings):
    if not clashing(tellings):
        return None
    staying = list(range(len(tellings)))
    for number in reversed(range(len(tellings))):
        others = [other for other in staying if other != number]
        if clashing([tellings[other] for other in others]):
            staying = others
    return staying
