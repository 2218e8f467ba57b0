"""Settled: the set of each place by tellings, or where they clash."""

from allmeet.meets import meet
from allmeet.places import Web
from allmeet.sets import ANY, NOTHING, field_of, fields_by_name, kind_set, made, parts_of, records_set


def settled(tellings):
    web = Web(tellings)
    if web.has_ring():
        return ("ring", web.first_on_ring())
    left = sets_left(web, tellings)
    places = web.walk()
    for path, head in places:
        if left[head] == NOTHING:
            return ("clash", path)
    sets = full_sets(web, left)
    return ("met", [(path, sets[head]) for path, head in places])


# By class what is left of it, not looking at what is left of its fields; of
# tellings without a ring. A class of a group that has fields is left with
# nothing already, so groups can be met behind all else.
def sets_left(web, tellings):
    left = own_sets(web, tellings)
    for head in web.order:
        for name, inner in web.fields[head].items():
            left[inner] = meet(left[inner], set_of_field(left[head], name))
    return met_in_groups(web, left)


def own_sets(web, tellings):
    own = told_sets(web, tellings)
    for head in web.fields:
        if web.fields[head] or head == web.class_of(0):
            own[head] = meet(own[head], kind_set("record"))
    for numbers, holds in web.groups:
        for head in numbers:
            own[head] = meet(own[head], kind_set("number"))
    return own


def told_sets(web, tellings):
    told = dict([(head, ANY) for head in web.fields])
    for telling in tellings:
        head = web.class_of(web.told[telling[1]])
        if telling[0] == "in":
            told[head] = meet(told[head], telling[2])
        elif telling[0] == "only":
            told[head] = meet(told[head], only_set(telling[2]))
    return told


# The records without other names.
def only_set(names):
    return records_set(tuple([(name, False, ANY) for name in names]), NOTHING)


# What a set tells of a field: nothing, where it has no records.
def set_of_field(some, name):
    records = parts_of(some)[4]
    return NOTHING if records is None else field_of(fields_by_name(records), records[1], name)[1]


# Each class of a group with what is in all of them, moved; of numbers alone.
def met_in_groups(web, sets):
    found = dict(sets)
    for numbers, holds in web.groups:
        common = kind_set("number") if holds else NOTHING
        for head in numbers:
            common = meet(common, moved(sets[head], -numbers[head]))
        for head in numbers:
            found[head] = moved(common, numbers[head])
    return found


def moved(some, more):
    numbers = [(moved_end(low, more), moved_end(high, more)) for low, high in parts_of(some)[0]]
    return made(tuple(numbers), ("of", ()), (), None, None)


def moved_end(number, more):
    return None if number is None else number + more


# By class the least set of its values: what is left, with its fields that are
# places told by their own sets. Fields come first.
def full_sets(web, left):
    sets = {}
    for head in reversed(web.order):
        fields = web.fields[head]
        inner = [(name, True, sets[fields[name]]) for name in fields]
        sets[head] = with_fields(left[head][4], inner) if fields else left[head]
    return sets


def with_fields(records, fields):
    told = dict([(field[0], field) for field in list(records[0]) + fields])
    return records_set(tuple([told[name] for name in sorted(told)]), records[1])
