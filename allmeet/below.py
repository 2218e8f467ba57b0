"""Below: whether all plain values that fulfil the one tellings fulfil the others."""

from allmeet.clashes import clashing
from allmeet.meets import fields_beside
from allmeet.places import Web, paths_in
from allmeet.plainly import first_ones, free_sets, plain_value
from allmeet.settled import full_sets, only_set, sets_left
from allmeet.sets import ANY, lies_in, records_set, set_of
from allmeet.tellings import fulfils, show_telling
from allmeet.within import outside, untold_name


# The plain values that fulfil tellings which don't clash. Each comes of picks
# (class, name, value), names as free_sets tells them, that are free of one
# another but for the classes of a group, of which one's number tells all.
class Choices:
    def __init__(self, tellings):
        self.web = Web(tellings)
        self.sets = full_sets(self.web, sets_left(self.web, tellings))
        self.free = dict([(head, free_sets(self.web, head, self.sets[head])) for head in self.web.order])
        self.picked = dict([(head, first_ones(self.free[head])) for head in self.web.order])
        for numbers, holds in self.web.groups:
            first = list(numbers)[0]
            self.picked = self.picked_with((first, "", self.picked[first][""]))

    def picked_with(self, pick):
        head = pick[0]
        picked = dict(self.picked)
        picked[head] = dict(picked[head])
        picked[head][pick[1]] = pick[2]
        for numbers, holds in self.web.groups:
            if head in numbers:
                picked.update(dict([(one, {"": pick[2] - numbers[head] + numbers[one]}) for one in numbers]))
        return picked

    def first_plain(self):
        return plain_value(self.web, self.picked)

    def plain_with(self, pick):
        return plain_value(self.web, self.picked_with(pick))


# Sorted, so that the same value is told in whatever order tellings come.
def not_below(one, other):
    if clashing(one):
        return None
    here = sorted(one, key=show_telling)
    there = sorted(other, key=show_telling)
    found = beyond_sets(here, there)
    return beyond_sames(here, there) if found is None else found


def beyond_sets(one, other):
    choices = Choices(one)
    first = choices.first_plain()
    for telling in other:
        for some in sets_of_whole(telling):
            if not lies_in(first, some):
                return first
            pick = pick_beyond(choices, choices.web.class_at(()), some)
            if pick is not None:
                return choices.plain_with(pick)
    return None


# The sets in which the whole lies where it fulfils a telling; of a same telling
# they tell just that its paths are there.
def sets_of_whole(telling):
    if telling[0] == "in":
        return [set_from_whole(telling[1], telling[2])]
    if telling[0] == "only":
        return [set_from_whole(telling[1], only_set(telling[2]))]
    return [set_from_whole(path, ANY) for path in paths_in(telling)]


def set_from_whole(path, some):
    for name in reversed(path):
        some = records_set(((name, True, some),), ANY)
    return some


# A pick that takes a class's value out of a set in which the first value lies:
# so the set has records, and asks for no field that may be left out.
def pick_beyond(choices, head, some):
    if some == ANY:
        return None
    fields = choices.web.fields[head]
    if not fields:
        return pick_outside(head, "", choices.sets[head], some)
    records = choices.sets[head][4]
    beside = fields_beside(records, some[4])
    for name, here, there in beside:
        if name in fields:
            found = pick_beyond(choices, fields[name], there[1])
        else:
            found = pick_outside(head, name, here[1], there[1])
        if found is not None:
            return found
    return pick_outside(head, untold_name(beside), records[1], some[4][1])


def pick_outside(head, name, one, other):
    found = outside(one, other)
    return None if found is None else (head, name, found)


# Where all paths of the same tellings are always there, they may be places too.
# Then two of them that are not always the same, but are in the first value, come
# apart by some one pick that is another one than the first value's.
def beyond_sames(one, other):
    sames = [telling for telling in other if telling[0] == "same"]
    if not sames:
        return None
    choices = Choices(one + wishes_for(sames))
    first = choices.first_plain()
    if not fulfils_all(first, sames):
        return first
    for pick in other_picks(choices):
        value = choices.plain_with(pick)
        if not fulfils_all(value, sames):
            return value
    return None


def wishes_for(tellings):
    wishes = []
    for telling in tellings:
        wishes.extend([("wish", path, ANY) for path in paths_in(telling)])
    return wishes


def fulfils_all(value, tellings):
    return all([fulfils(value, telling) for telling in tellings])


def other_picks(choices):
    picks = []
    for head in choices.web.order:
        for name, some in choices.free[head].items():
            picks.append(pick_outside(head, name, some, set_of(choices.picked[head][name])))
        if choices.web.fields[head]:
            picks.append(further_field(choices, head))
    return [pick for pick in picks if pick is not None]


def further_field(choices, head):
    due = [name for name, must, some in choices.sets[head][4][0] if must]
    return pick_beyond(choices, head, only_set(due))
