"""Parts of sets: numbers as stretches, texts told or left out, truths."""

from allmeet.values import is_tagged, is_text, is_whole, rising, text_order


def is_end(thing):
    return thing is None or is_whole(thing)


def is_stretch(thing):
    if not (isinstance(thing, tuple) and len(thing) == 2):
        return False
    if not (is_end(thing[0]) and is_end(thing[1])):
        return False
    return not is_empty(thing[0], thing[1])


def is_empty(low, high):
    return low is not None and high is not None and low > high


# Whether a number at least lies between a stretch and one above it.
def lies_clear(lower, upper):
    return lower[1] is not None and upper[0] is not None and lower[1] + 1 < upper[0]


def is_numbers(thing):
    if not (isinstance(thing, tuple) and all([is_stretch(part) for part in thing])):
        return False
    return all([lies_clear(lower, upper) for lower, upper in zip(thing, thing[1:])])


def is_texts(thing):
    if not (is_tagged(thing, "of") or is_tagged(thing, "but")):
        return False
    if not all([is_text(text) for text in thing[1]]):
        return False
    return rising([text_order(text) for text in thing[1]])


def is_truths(thing):
    if not isinstance(thing, tuple):
        return False
    return all([isinstance(part, bool) for part in thing]) and rising(thing)


def low_order(stretch):
    return (0, 0) if stretch[0] is None else (1, stretch[0])


def numbers_of(pairs):
    merged = []
    for pair in sorted(pairs, key=low_order):
        if merged and not lies_clear(merged[-1], pair):
            merged[-1] = (merged[-1][0], farther_high(merged[-1][1], pair[1]))
        else:
            merged.append((pair[0], pair[1]))
    return tuple(merged)


def farther_high(one, other):
    return None if one is None or other is None else max(one, other)


# Goes along both at once; what two stretches have in common can't touch what
# two others have, since neither one's stretches touch.
def meet_numbers(one, other):
    met = []
    here = 0
    there = 0
    while here < len(one) and there < len(other):
        low = nearer_low(one[here], other[there])
        high = nearer_high(one[here], other[there])
        if not is_empty(low, high):
            met.append((low, high))
        if ends_first(one[here], other[there]):
            here = here + 1
        else:
            there = there + 1
    return tuple(met)


def nearer_low(one, other):
    return max([low for low in (one[0], other[0]) if low is not None], default=None)


def nearer_high(one, other):
    return min([high for high in (one[1], other[1]) if high is not None], default=None)


def ends_first(one, other):
    return one[1] is not None and (other[1] is None or one[1] < other[1])


# All numbers but these.
def gaps_of(numbers):
    gaps = []
    low = None
    for stretch in numbers:
        if stretch[0] is not None:
            gaps.append((low, stretch[0] - 1))
        if stretch[1] is None:
            return tuple(gaps)
        low = stretch[1] + 1
    return tuple(gaps + [(low, None)])


def meet_texts(one, other):
    if one[0] == "of" and other[0] == "of":
        return ("of", in_both(one[1], other[1]))
    if one[0] == "of":
        return ("of", without(one[1], other[1]))
    if other[0] == "of":
        return ("of", without(other[1], one[1]))
    return ("but", in_either(one[1], other[1]))


# In either lies just what isn't left out of both.
def join_texts(one, other):
    return turned(meet_texts(turned(one), turned(other)))


def turned(texts):
    return ("but" if texts[0] == "of" else "of", texts[1])


def marked(texts):
    return dict([(text, True) for text in texts])


# In order, each once.
def rising_texts(texts):
    return tuple(sorted(marked(texts), key=text_order))


def in_both(one, other):
    there = marked(other)
    return tuple([text for text in one if text in there])


def without(one, other):
    there = marked(other)
    return tuple([text for text in one if text not in there])


def in_either(one, other):
    return rising_texts(one + other)
