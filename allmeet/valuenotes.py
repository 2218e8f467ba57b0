"""Values in words: how a value is written, and how it is read back."""

from allmeet.errors import NoValue
from allmeet.values import names_of, rising

MOST_FIGURES = 40
MOST_DEEP = 20


def show_value(value):
    if isinstance(value, bool):
        return "true" if value else "false"
    if isinstance(value, int):
        return str(value)
    if isinstance(value, str):
        return '"' + value + '"'
    if value[0] == "list":
        return "[" + ", ".join([show_value(part) for part in value[1]]) + "]"
    return "{" + ", ".join([show_pair(pair) for pair in value[1]]) + "}"


def show_pair(pair):
    return pair[0] + ": " + show_value(pair[1])


def read_value(text):
    found = value_at(text, 0, 1)
    if found[1] != len(text):
        raise NoValue("something stands behind the value")
    return found[0]


# Every reader below answers a tuple (what it read, where it ended) and goes by
# places in the text: a long text is never cut up.
def value_at(text, at, depth):
    if depth > MOST_DEEP:
        raise NoValue("too many lists and records within one another")
    if text.startswith("[", at):
        return list_at(text, at, depth)
    if text.startswith("{", at):
        return record_at(text, at, depth)
    if text.startswith('"', at):
        return text_at(text, at)
    if text.startswith("true", at):
        return (True, at + len("true"))
    if text.startswith("false", at):
        return (False, at + len("false"))
    return number_at(text, at)


def list_at(text, at, depth):
    found = parts_at(text, at + 1, "]", value_at, depth + 1)
    return (("list", found[0]), found[1])


def record_at(text, at, depth):
    found = parts_at(text, at + 1, "}", pair_at, depth + 1)
    if not rising(names_of(found[0])):
        raise NoValue("a record's names don't rise")
    return (("record", found[0]), found[1])


def parts_at(text, at, close, part_at, depth):
    if text.startswith(close, at):
        return ((), at + len(close))
    parts = []
    while True:
        found = part_at(text, at, depth)
        parts.append(found[0])
        if text.startswith(close, found[1]):
            return (tuple(parts), found[1] + len(close))
        at = behind(text, found[1], ", ")


def pair_at(text, at, depth):
    end = run_end(text, at, "a", "z")
    if end == at:
        raise NoValue("no name where one is due")
    found = value_at(text, behind(text, end, ": "), depth)
    return ((text[at:end], found[0]), found[1])


def text_at(text, at):
    end = run_end(text, at + 1, "a", "z")
    return (text[at + 1:end], behind(text, end, '"'))


def number_at(text, at):
    start = at + 1 if text.startswith("-", at) else at
    end = run_end(text, start, "0", "9")
    if end == start or end - start > MOST_FIGURES:
        raise NoValue("no number of one to forty figures where one is due")
    if text.startswith("0", start) and end - at > 1:
        raise NoValue("a nought ahead, or below nought")
    return (int(text[at:end]), end)


# Asked by the signs themselves: isdigit and islower hold of signs of other
# scripts too.
def run_end(text, at, first, last):
    end = at
    while end < len(text) and first <= text[end] <= last:
        end = end + 1
    return end


def behind(text, at, sign):
    if not text.startswith(sign, at):
        raise NoValue(f"no {sign!r} where one is due")
    return at + len(sign)
