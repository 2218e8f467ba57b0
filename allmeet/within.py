"""Whether a set lies within another, its first value, and how many it has."""

from allmeet.meets import fields_beside
from allmeet.parts import gaps_of, marked, meet_numbers, meet_texts, turned
from allmeet.sets import ANY, NOTHING, front_at, parts_of
from allmeet.values import number_order

LETTERS = "abcdefghijklmnopqrstuvwxyz"


def is_within(one, other):
    return outside(one, other) is None


def outside(one, other):
    if other == ANY:
        return None
    here = parts_of(one)
    there = parts_of(other)
    found = first_value(leaves_outside(here, there))
    if found is None:
        found = list_outside(here[3], there[3])
    if found is None:
        found = record_outside(here[4], there[4])
    return found


# The numbers, texts and truths of the one that the other hasn't.
def leaves_outside(here, there):
    return (
        meet_numbers(here[0], gaps_of(there[0])),
        meet_texts(here[1], turned(there[1])),
        tuple([truth for truth in here[2] if truth not in there[2]]),
        None,
        None,
    )


# A list that is too short for the other, or the shortest one with a value at
# one place that the other hasn't there.
def list_outside(one, other):
    if one is None:
        return None
    least = first_values(one[0])
    if other is None or len(least) < len(other[0]):
        return ("list", tuple(least))
    for place, front in enumerate(one[0]):
        found = outside(front, front_at(other, place))
        if found is not None:
            return ("list", tuple(least[:place] + [found] + least[place + 1:]))
    found = outside(one[1], other[1])
    return None if found is None else ("list", tuple(least + [found]))


# The record of the must fields alone, where the other asks for more of them,
# or that with a value of one field that the other hasn't there.
def record_outside(one, other):
    if one is None:
        return None
    least = least_fields(one)
    if other is None or not all([name in least or not must for name, must, some in other[0]]):
        return record_of(least)
    beside = fields_beside(one, other)
    for name, here, there in beside:
        found = outside(here[1], there[1])
        if found is not None:
            return record_with(least, name, found)
    found = outside(one[1], other[1])
    return None if found is None else record_with(least, untold_name(beside), found)


def record_of(fields):
    return ("record", tuple(sorted(fields.items())))


def record_with(fields, name, value):
    changed = dict(fields)
    changed[name] = value
    return record_of(changed)


# A name of which neither of two records parts tells anything but more.
def untold_name(beside):
    told = marked([name for name, here, there in beside])
    name = "a"
    while name in told:
        name = text_behind(name)
    return name


def first_value(some):
    parts = parts_of(some)
    if parts[0]:
        return first_number(parts[0])
    if parts[1] != ("of", ()):
        return first_text(parts[1])
    if parts[2]:
        return parts[2][0]
    if parts[3] is not None:
        return ("list", tuple(first_values(parts[3][0])))
    if parts[4] is not None:
        return record_of(least_fields(parts[4]))
    return None


def first_number(numbers):
    return min([nearest(low, high) for low, high in numbers], key=number_order)


def nearest(low, high):
    if low is not None and low > 0:
        return low
    return high if high is not None and high < 0 else 0


# What is left out rises as texts do, so the first gap in it is the first text.
def first_text(texts):
    if texts[0] == "of":
        return texts[1][0]
    first = ""
    for text in texts[1]:
        if text != first:
            return first
        first = text_behind(first)
    return first


# The text that comes next, by length, then letter by letter.
def text_behind(text):
    stem = text.rstrip("z")
    if stem == "":
        return "a" * (len(text) + 1)
    letter = LETTERS[LETTERS.index(stem[-1]) + 1]
    return stem[:-1] + letter + "a" * (len(text) - len(stem))


def first_values(fronts):
    return [first_value(front) for front in fronts]


# By name the first value of each must field.
def least_fields(records):
    return dict([(name, first_value(some)) for name, must, some in records[0] if must])


def how_many(some):
    if some == ANY:
        return None
    counts = [
        numbers_count(some[0]), texts_count(some[1]), len(some[2]), lists_count(some[3]), records_count(some[4]),
    ]
    return None if None in counts else sum(counts)


def numbers_count(numbers):
    if any([None in ends for ends in numbers]):
        return None
    return sum([high - low + 1 for low, high in numbers])


def texts_count(texts):
    return len(texts[1]) if texts[0] == "of" else None


# With any value behind the fronts there are ever longer lists.
def lists_count(lists):
    if lists is None:
        return 0
    return product([how_many(front) for front in lists[0]]) if lists[1] == NOTHING else None


# With any value for other names there are ever more records.
def records_count(records):
    if records is None:
        return 0
    return product([field_count(field) for field in records[0]]) if records[1] == NOTHING else None


# A field that isn't must may also be left out.
def field_count(field):
    count = how_many(field[2])
    return count if field[1] or count is None else count + 1


# No count that is handed in is 0, so one without end is one of the whole.
def product(counts):
    whole = 1
    for count in counts:
        if count is None:
            return None
        whole = whole * count
    return whole
