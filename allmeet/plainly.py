"""Plainly: the one value that tellings and wishes choose, or the places that are open."""

from allmeet.meets import meet
from allmeet.places import Web
from allmeet.settled import met_in_groups, settled
from allmeet.sets import ANY, NOTHING
from allmeet.within import first_value, how_many, record_of


def plainly(tellings):
    outcome = settled(tellings)
    if outcome[0] != "met":
        return outcome
    web = Web(tellings)
    sets = dict([(web.class_at(path), some) for path, some in outcome[1]])
    wishes = met_in_groups(web, wished_sets(web, tellings))
    free = dict([(head, free_sets(web, head, with_wish(sets[head], wishes[head]))) for head in sets])
    vague = [path for path, head in web.walk() if not has_one_each(free[head])]
    if vague:
        return ("open", vague)
    return ("plain", plain_value(web, dict([(head, first_ones(free[head])) for head in free])))


def wished_sets(web, tellings):
    wished = dict([(head, ANY) for head in web.fields])
    for telling in tellings:
        head = web.class_of(web.told[telling[1]])
        if telling[0] == "wish" and not web.fields[head]:
            wished[head] = meet(wished[head], telling[2])
    return wished


def with_wish(some, wish):
    met = meet(some, wish)
    return some if met == NOTHING else met


# What is free to be chosen at a class: by "", which is no name, its set where no
# field of it is a place, else by their names its other must fields' sets.
def free_sets(web, head, some):
    fields = web.fields[head]
    if not fields:
        return {"": some}
    return dict([(name, part) for name, must, part in some[4][0] if must and name not in fields])


def has_one_each(free):
    return all([how_many(some) == 1 for some in free.values()])


def first_ones(free):
    return dict([(name, first_value(some)) for name, some in free.items()])


# The whole, of what is picked at each class, by the names that free_sets tells
# and perhaps further ones. Fields come first.
def plain_value(web, picked):
    values = {}
    for head in reversed(web.order):
        fields = web.fields[head]
        inner = dict([(name, values[fields[name]]) for name in fields])
        inner.update(picked[head])
        values[head] = record_of(inner) if fields else picked[head][""]
    return values[web.class_of(0)]
