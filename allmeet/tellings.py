"""Tellings: what is one, whether a plain value fulfils it, and how it is written and read."""

from allmeet.errors import NoSet, NoTelling, NoValue
from allmeet.setnotes import read_set, show_set
from allmeet.sets import is_set, lies_in
from allmeet.valuenotes import behind, number_at, run_end
from allmeet.values import is_name, is_whole, names_of, rising, same_value

MOST_NAMES = 4


def is_row_of_names(thing):
    return isinstance(thing, tuple) and all([is_name(part) for part in thing])


def is_path(thing):
    return is_row_of_names(thing) and len(thing) <= MOST_NAMES


def is_telling(thing):
    if not (isinstance(thing, tuple) and len(thing) in (3, 4) and isinstance(thing[0], str) and is_path(thing[1])):
        return False
    if thing[0] == "same":
        return len(thing) == 4 and is_path(thing[2]) and is_whole(thing[3])
    if len(thing) == 4:
        return False
    if thing[0] == "only":
        return is_row_of_names(thing[2]) and rising(thing[2])
    return thing[0] in ("in", "wish") and is_set(thing[2])


def is_record(value):
    return isinstance(value, tuple) and value[0] == "record"


def at_path(value, path):
    here = value
    for name in path:
        fields = dict(here[1]) if is_record(here) else {}
        if name not in fields:
            return ()
        here = fields[name]
    return (here,)


def fulfils(value, telling):
    here = at_path(value, telling[1])
    if here == ():
        return False
    if telling[0] == "in":
        return lies_in(here[0], telling[2])
    if telling[0] == "only":
        return has_only(here[0], telling[2])
    if telling[0] == "same":
        there = at_path(value, telling[2])
        return there != () and lie_apart(here[0], there[0], telling[3])
    return True


def has_only(value, names):
    return is_record(value) and all([name in names for name in names_of(value[1])])


def lie_apart(one, other, number):
    if number == 0:
        return same_value(one, other)
    return is_whole(one) and is_whole(other) and one == other + number


def show_path(path):
    return ".".join(path) if path else "."


def show_telling(telling):
    start = show_path(telling[1])
    if telling[0] == "same":
        return start + " = " + show_path(telling[2]) + show_step(telling[3])
    if telling[0] == "only":
        return " ".join([start, "only"] + list(telling[2]))
    return start + " " + telling[0] + " " + show_set(telling[2])


def show_step(number):
    if number == 0:
        return ""
    return (" + " if number > 0 else " - ") + str(abs(number))


def read_telling(text):
    try:
        return telling_in(text)
    except (NoSet, NoValue) as fault:
        raise NoTelling("no set, number or sign where one is due") from fault


def telling_in(text):
    found = path_at(text, 0)
    path = found[0]
    at = found[1]
    for word in ("in", "wish"):
        start = " " + word + " "
        if text.startswith(start, at):
            return (word, path, read_set(text[at + len(start):]))
    if text.startswith(" only", at):
        return ("only", path, names_in(text, at + len(" only")))
    return same_in(text, path, behind(text, at, " = "))


def read_path(text):
    found = path_at(text, 0)
    if found[1] != len(text):
        raise NoTelling("something stands behind the path")
    return found[0]


# A tuple (path, where it ended).
def path_at(text, at):
    if text.startswith(".", at):
        return ((), at + 1)
    path = []
    while len(path) < MOST_NAMES:
        end = name_end(text, at)
        path.append(text[at:end])
        if not text.startswith(".", end):
            return (tuple(path), end)
        at = end + 1
    raise NoTelling("a path of too many names")


def name_end(text, at):
    end = run_end(text, at, "a", "z")
    if end == at:
        raise NoTelling("no name where one is due")
    return end


def names_in(text, at):
    names = []
    while at < len(text):
        start = behind(text, at, " ")
        at = name_end(text, start)
        names.append(text[start:at])
    if not rising(names):
        raise NoTelling("names that don't rise")
    return tuple(names)


# Reads on from the second path.
def same_in(text, path, at):
    found = path_at(text, at)
    return ("same", path, found[0], step_in(text, found[1]))


def step_in(text, at):
    if at == len(text):
        return 0
    below = text.startswith(" - ", at)
    found = number_at(text, behind(text, at, " - " if below else " + "))
    if found[0] < 1 or found[1] != len(text):
        raise NoTelling("no number from 1 on at the end")
    return -found[0] if below else found[0]
