"""Sets in words: how a set is written, and how it is read."""

from allmeet.errors import NoSet, NoValue
from allmeet.meets import join_all
from allmeet.parts import rising_texts
from allmeet.sets import ANY, NOTHING, kind_set, lists_set, made, records_set, set_of, stretch
from allmeet.valuenotes import MOST_DEEP, behind, number_at, run_end, show_value, text_at, value_at
from allmeet.values import is_whole, names_of, rising


def show_set(some):
    return " or ".join(words_of(some))


def words_of(some):
    if some == ANY:
        return ["any"]
    if some == NOTHING:
        return ["nothing"]
    return (
        number_words(some[0]) + text_words(some[1]) + truth_words(some[2])
        + list_words(some[3]) + record_words(some[4])
    )


def number_words(numbers):
    return ["number"] if numbers == ((None, None),) else [show_stretch(low, high) for low, high in numbers]


def show_stretch(low, high):
    return show_end(low) if low == high else show_end(low) + ".." + show_end(high)


def show_end(number):
    return "" if number is None else show_value(number)


def text_words(texts):
    words = [show_value(text) for text in texts[1]]
    if texts[0] == "of":
        return words
    return [" ".join(["text but"] + words)] if words else ["text"]


def truth_words(truths):
    return ["truth"] if len(truths) == 2 else [show_value(truth) for truth in truths]


def list_words(lists):
    if lists is None:
        return []
    return ["[" + ", ".join([show_inner(front) for front in lists[0]] + show_more(lists[1])) + "]"]


def record_words(records):
    if records is None:
        return []
    fields = [name + (": " if must else "?: ") + show_inner(some) for name, must, some in records[0]]
    return ["{" + ", ".join(fields + show_more(records[1])) + "}"]


def show_more(more):
    return [] if more == NOTHING else [".. " + show_inner(more)]


def show_inner(some):
    words = words_of(some)
    return words[0] if len(words) == 1 else "(" + " or ".join(words) + ")"


def read_set(text):
    try:
        found = whole_at(text, 0)
    except NoValue as fault:
        raise NoSet("no number, text or sign where one is due") from fault
    if found[1] != len(text):
        raise NoSet("something stands behind the set")
    return found[0]


# Every reader below answers a tuple that ends with where it ended.
def whole_at(text, at):
    found = alone_at(text, at)
    if found is not None:
        return found
    words = words_at(text, at, 1)
    return (join_all(words[0]), words[1])


def alone_at(text, at):
    if text.startswith("any", at):
        return (ANY, at + len("any"))
    if text.startswith("nothing", at):
        return (NOTHING, at + len("nothing"))
    return None


def inner_at(text, at, depth):
    if depth > MOST_DEEP:
        raise NoSet("too many lists and records within one another")
    if text.startswith("(", at):
        return bracket_at(text, at, depth)
    found = alone_at(text, at)
    return word_at(text, at, depth) if found is None else found


def bracket_at(text, at, depth):
    words = words_at(text, at + 1, depth)
    if len(words[0]) == 1:
        raise NoSet("brackets round one word")
    return (join_all(words[0]), behind(text, words[1], ")"))


def words_at(text, at, depth):
    words = []
    while True:
        found = word_at(text, at, depth)
        words.append(found[0])
        if not text.startswith(" or ", found[1]):
            return (words, found[1])
        at = found[1] + len(" or ")


def word_at(text, at, depth):
    if text.startswith("[", at):
        return list_word_at(text, at, depth)
    if text.startswith("{", at):
        return record_word_at(text, at, depth)
    if text.startswith("text but", at):
        return but_at(text, at + len("text but"))
    for kind in ("number", "text", "truth"):
        if text.startswith(kind, at):
            return (kind_set(kind), at + len(kind))
    if text.startswith("..", at):
        return stretch_at(text, at, None)
    found = value_at(text, at, 1)
    if is_whole(found[0]) and text.startswith("..", found[1]):
        return stretch_at(text, found[1], found[0])
    return (set_of(found[0]), found[1])


# Reads on from the two points behind a low end, None for none.
def stretch_at(text, at, low):
    start = at + len("..")
    if low is not None and not begins_number(text, start):
        return (stretch(low, None), start)
    found = number_at(text, start)
    if low is not None and low > found[0]:
        raise NoSet("a low end above the high one")
    return (stretch(low, found[0]), found[1])


def begins_number(text, at):
    return text.startswith("-", at) or run_end(text, at, "0", "9") > at


def but_at(text, at):
    texts = []
    while text.startswith(' "', at):
        found = text_at(text, at + 1)
        texts.append(found[0])
        at = found[1]
    if not texts:
        raise NoSet("no text behind but")
    return (made((), ("but", rising_texts(texts)), (), None, None), at)


def list_word_at(text, at, depth):
    found = inside_at(text, at + 1, "]", inner_at, depth + 1)
    return (lists_set(tuple(found[0]), found[1]), found[2])


def record_word_at(text, at, depth):
    found = inside_at(text, at + 1, "}", field_at, depth + 1)
    fields = sorted(found[0], key=name_of)
    if not rising(names_of(fields)):
        raise NoSet("a record with a name twice")
    return (records_set(tuple(fields), found[1]), found[2])


def name_of(field):
    return field[0]


# A tuple (fronts or fields, more, where it ended).
def inside_at(text, at, close, part_at, depth):
    if text.startswith(close, at):
        return ([], NOTHING, at + len(close))
    parts = []
    while not text.startswith(".. ", at):
        found = part_at(text, at, depth)
        parts.append(found[0])
        if text.startswith(close, found[1]):
            return (parts, NOTHING, found[1] + len(close))
        at = behind(text, found[1], ", ")
    more = inner_at(text, at + len(".. "), depth)
    return (parts, more[0], behind(text, more[1], close))


def field_at(text, at, depth):
    end = run_end(text, at, "a", "z")
    if end == at:
        raise NoSet("no name where one is due")
    must = not text.startswith("?", end)
    found = inner_at(text, behind(text, end if must else end + 1, ": "), depth)
    return ((text[at:end], must, found[0]), found[1])
