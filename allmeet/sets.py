"""Sets of values: what is one, what lies in it, and how one is made."""

from allmeet.parts import is_empty, is_numbers, is_texts, is_truths
from allmeet.values import is_name, names_of, rising

ANY = "any"
NOTHING = ((), ("of", ()), (), None, None)
# The parts of "any", which has no parts of its own.
ALL_PARTS = (((None, None),), ("but", ()), (False, True), ((), "any"), ((), "any"))
KIND_SETS = {
    "number": (((None, None),), ("of", ()), (), None, None),
    "text": ((), ("but", ()), (), None, None),
    "truth": ((), ("of", ()), (False, True), None, None),
    "list": ((), ("of", ()), (), ((), "any"), None),
    "record": ((), ("of", ()), (), None, ((), "any")),
}


def parts_of(some):
    return ALL_PARTS if some == ANY else some


# The set in which a list's value at a place lies, places from 0 on.
def front_at(lists, place):
    return lists[0][place] if place < len(lists[0]) else lists[1]


# By each told name a tuple (must, set).
def fields_by_name(records):
    return dict([(name, (must, some)) for name, must, some in records[0]])


# A name that isn't told may be there, with a value of more.
def field_of(told, more, name):
    return told.get(name, (False, more))


def is_couple(thing):
    return isinstance(thing, tuple) and len(thing) == 2 and isinstance(thing[0], tuple)


def is_field(thing):
    return isinstance(thing, tuple) and len(thing) == 3 and is_name(thing[0]) and isinstance(thing[1], bool)


def has_lists_form(thing):
    return thing is None or is_couple(thing)


def has_records_form(thing):
    if thing is None:
        return True
    if not (is_couple(thing) and all([is_field(field) for field in thing[0]])):
        return False
    return rising(names_of(thing[0]))


# Whether a thing has a set's form, whatever stands where sets stand within it.
def has_set_form(thing):
    if isinstance(thing, str):
        return thing == ANY
    if not (isinstance(thing, tuple) and len(thing) == 5):
        return False
    if not (is_numbers(thing[0]) and is_texts(thing[1]) and is_truths(thing[2])):
        return False
    return has_lists_form(thing[3]) and has_records_form(thing[4])


# What stands right within a thing that has a set's form.
def inner_sets(thing):
    inner = []
    if thing == ANY:
        return inner
    if thing[3] is not None:
        inner.extend(list(thing[3][0]) + [thing[3][1]])
    if thing[4] is not None:
        inner.extend([field[2] for field in thing[4][0]] + [thing[4][1]])
    return inner


# All but what stands in the sets within.
def outer_form(some):
    if some == ANY:
        return (ANY,)
    fronts = None if some[3] is None else len(some[3][0])
    fields = None if some[4] is None else [(field[0], field[1]) for field in some[4][0]]
    return (some[0], some[1], some[2], fronts, fields)


# As == tells, but of sets of any depth, which == may not be able to go down.
def same_set(one, other):
    waiting = [(one, other)]
    while waiting:
        pair = waiting.pop()
        if outer_form(pair[0]) != outer_form(pair[1]):
            return False
        waiting.extend(list(zip(inner_sets(pair[0]), inner_sets(pair[1]))))
    return True


# Whether a field keeps to the one form, beside the more of its records.
def is_due(field, more):
    return field[2] != NOTHING if field[1] else not same_set(field[2], more)


# Whether what has a set's form through and through has the one form of its
# values, if the sets within have it.
def has_one_form(some):
    if some == ANY:
        return True
    if some[3] is not None and not all([front != NOTHING for front in some[3][0]]):
        return False
    if some[4] is not None and not all([is_due(field, some[4][1]) for field in some[4][0]]):
        return False
    return some != ALL_PARTS


# Goes by a list of what waits, as the thing may be of any depth; nothing within
# it is compared until all of it has a set's form.
def is_set(thing):
    found = []
    waiting = [thing]
    while waiting:
        some = waiting.pop()
        if not has_set_form(some):
            return False
        found.append(some)
        waiting.extend(inner_sets(some))
    return all([has_one_form(some) for some in found])


def lies_in(value, some):
    if some == ANY:
        return True
    if isinstance(value, bool):
        return value in some[2]
    if isinstance(value, int):
        return any([is_between(value, low, high) for low, high in some[0]])
    if isinstance(value, str):
        return (value in some[1][1]) == (some[1][0] == "of")
    if value[0] == "list":
        return list_lies_in(value[1], some[3])
    return record_lies_in(value[1], some[4])


def is_between(number, low, high):
    return not is_empty(low, number) and not is_empty(number, high)


def list_lies_in(values, lists):
    if lists is None or len(values) < len(lists[0]):
        return False
    return all([lies_in(value, front_at(lists, place)) for place, value in enumerate(values)])


def record_lies_in(pairs, records):
    if records is None:
        return False
    there = dict(pairs)
    if not all([name in there or not must for name, must, some in records[0]]):
        return False
    told = fields_by_name(records)
    return all([lies_in(value, field_of(told, records[1], name)[1]) for name, value in pairs])


def set_of(value):
    if isinstance(value, bool):
        return made((), ("of", ()), (value,), None, None)
    if isinstance(value, int):
        return stretch(value, value)
    if isinstance(value, str):
        return made((), ("of", (value,)), (), None, None)
    if value[0] == "list":
        return lists_set(tuple([set_of(part) for part in value[1]]), NOTHING)
    return records_set(tuple([(name, True, set_of(part)) for name, part in value[1]]), NOTHING)


def kind_set(kind):
    return KIND_SETS[kind]


def stretch(low, high):
    return NOTHING if is_empty(low, high) else made(((low, high),), ("of", ()), (), None, None)


def lists_set(fronts, more):
    return made((), ("of", ()), (), (fronts, more), None)


def records_set(fields, more):
    return made((), ("of", ()), (), None, (fields, more))


def made(numbers, texts, truths, lists, records):
    parts = (numbers, texts, truths, lists_in_form(lists), records_in_form(records))
    return ANY if parts == ALL_PARTS else parts


# No list has a value of nothing at a front.
def lists_in_form(lists):
    return None if lists is None or NOTHING in lists[0] else lists


# No record has a must field of nothing; what more tells already is left out.
def records_in_form(records):
    if records is None or any([must and some == NOTHING for name, must, some in records[0]]):
        return None
    return (tuple([field for field in records[0] if field[1] or field[2] != records[1]]), records[1])
