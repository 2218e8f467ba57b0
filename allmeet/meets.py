"""Meets and joins of sets."""

from allmeet.parts import join_texts, meet_numbers, meet_texts, numbers_of
from allmeet.sets import ANY, field_of, fields_by_name, front_at, made


def meet(one, other):
    if one == ANY:
        return other
    if other == ANY:
        return one
    return made(
        meet_numbers(one[0], other[0]),
        meet_texts(one[1], other[1]),
        tuple([truth for truth in one[2] if truth in other[2]]),
        meet_lists(one[3], other[3]),
        meet_records(one[4], other[4]),
    )


def meet_lists(one, other):
    if one is None or other is None:
        return None
    longer = max(len(one[0]), len(other[0]))
    fronts = [meet(front_at(one, place), front_at(other, place)) for place in range(longer)]
    return (tuple(fronts), meet(one[1], other[1]))


def meet_records(one, other):
    if one is None or other is None:
        return None
    fields = [
        (name, here[0] or there[0], meet(here[1], there[1])) for name, here, there in fields_beside(one, other)
    ]
    return (tuple(fields), meet(one[1], other[1]))


def join(one, other):
    if one == ANY or other == ANY:
        return ANY
    return made(
        numbers_of(list(one[0] + other[0])),
        join_texts(one[1], other[1]),
        tuple([truth for truth in (False, True) if truth in one[2] or truth in other[2]]),
        join_lists(one[3], other[3]),
        join_records(one[4], other[4]),
    )


# What stands in the one at a front may stand behind the other's fronts, so it
# is joined to what more may be.
def join_lists(one, other):
    if one is None or other is None:
        return other if one is None else one
    shorter = min(len(one[0]), len(other[0]))
    fronts = [join(here, there) for here, there in zip(one[0], other[0])]
    more = join_all([one[1], other[1]] + list(one[0][shorter:] + other[0][shorter:]))
    return (tuple(fronts), more)


def join_records(one, other):
    if one is None or other is None:
        return other if one is None else one
    fields = [
        (name, here[0] and there[0], join(here[1], there[1])) for name, here, there in fields_beside(one, other)
    ]
    return (tuple(fields), join(one[1], other[1]))


# Of each name that either tells a tuple (name, field of the one, of the other).
def fields_beside(one, other):
    here = fields_by_name(one)
    there = fields_by_name(other)
    return [
        (name, field_of(here, one[1], name), field_of(there, other[1], name))
        for name in sorted(set(here) | set(there))
    ]


# Neighbours are joined two by two: one after the other, a long row of them
# would be gone through once for each.
def join_all(sets):
    waiting = list(sets)
    while len(waiting) > 1:
        joined = [join(one, other) for one, other in zip(waiting[0::2], waiting[1::2])]
        waiting = joined + waiting[2 * len(joined):]
    return waiting[0]
