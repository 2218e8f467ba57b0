"""Values: what is one, when two are the same, and their order."""


def is_whole(thing):
    return isinstance(thing, int) and not isinstance(thing, bool)


def is_text(thing):
    return isinstance(thing, str) and all(["a" <= sign <= "z" for sign in thing])


def is_name(thing):
    return is_text(thing) and len(thing) > 0


# Kinds are asked ahead of every comparison: a thing of any kind may be handed
# in, and its own == may answer anything.
def is_tagged(thing, word):
    if not (isinstance(thing, tuple) and len(thing) == 2):
        return False
    return isinstance(thing[0], str) and thing[0] == word and isinstance(thing[1], tuple)


def is_pair(thing):
    return isinstance(thing, tuple) and len(thing) == 2 and is_name(thing[0])


# Each one below the next, so that none comes twice.
def rising(keys):
    return all([one < other for one, other in zip(keys, keys[1:])])


def names_of(pairs):
    return [pair[0] for pair in pairs]


# Whether a thing is a value if all that stands within it is.
def has_form(thing):
    if isinstance(thing, int):
        return True
    if isinstance(thing, str):
        return is_text(thing)
    if is_tagged(thing, "record"):
        return all([is_pair(pair) for pair in thing[1]]) and rising(names_of(thing[1]))
    return is_tagged(thing, "list")


# What stands right within a thing that has a value's form.
def inner_values(thing):
    if isinstance(thing, (int, str)):
        return []
    if thing[0] == "list":
        return list(thing[1])
    return [pair[1] for pair in thing[1]]


# Goes by a list of what waits, not by calls of itself: the thing may be of any
# depth.
def is_value(thing):
    waiting = [thing]
    while waiting:
        some = waiting.pop()
        if not has_form(some):
            return False
        waiting.extend(inner_values(some))
    return True


def number_order(number):
    return (abs(number), number < 0)


def text_order(text):
    return (len(text), text)


# What orders two values before what stands within them is looked at. The kind
# comes first, so that no truth is held against a number.
def head_of(value):
    if isinstance(value, bool):
        return (2, value)
    if isinstance(value, int):
        return (0, number_order(value))
    if isinstance(value, str):
        return (1, text_order(value))
    if value[0] == "list":
        return (3, len(value[1]))
    return (4, len(value[1]), names_of(value[1]))


# The heads of a value and of all within it, each ahead of those within it.
# Two values are alike in form as far as their heads are the same, so lists of
# heads are ordered as the values are.
def value_order(value):
    heads = []
    waiting = [value]
    while waiting:
        some = waiting.pop()
        heads.append(head_of(some))
        waiting.extend(list(reversed(inner_values(some))))
    return heads


def same_value(one, other):
    return value_order(one) == value_order(other)


def ahead(one, other):
    return value_order(one) < value_order(other)
