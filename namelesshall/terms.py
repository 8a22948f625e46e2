"""What terms come to at a hand, and which values are too large for a hand."""

from namelesshall.values import is_ahead, is_bundle, order_key, parts, within

MOST_PARTS = 600
MOST_WITHIN = 40


def fits(value):
    """Whether a hand can hold this value without bursting."""
    return parts(value) <= MOST_PARTS and within(value) <= MOST_WITHIN


def value_of(term, mark, pegs, names):
    """The value of a term at a hand of this mark, so many pegs and these names; None where the hand bursts."""
    word = term[0]
    if word == "mark":
        return mark
    if word == "pegs":
        return pegs
    if word == "name":
        return names.get(term[1], 0)
    if word == "number" or word == "value":
        value = term[1]
    else:
        values = [value_of(inner, mark, pegs, names) for inner in term[1:]]
        value = None if None in values else made_value(word, values)
    return value if value is not None and fits(value) else None


def made_value(word, values):
    """The value of a term of this word around terms of these values."""
    if word == "bundle":
        return tuple(values)
    if word == "many":
        return len(things_of(values[0]))
    if word == "gather":
        return gathered(values[0], values[1])
    if word == "place":
        return place_of(values[0], values[1])
    if is_bundle(values[0]) or is_bundle(values[1]):
        return 0
    return values[0] + values[1]


def things_of(value):
    """The things of a bundle; a number has none."""
    return value if is_bundle(value) else ()


def gathered(own, heard):
    """All things of the one, and of the second one of each pair in what was heard: each once, in order."""
    things = list(things_of(own))
    for pair in things_of(heard):
        if is_bundle(pair) and len(pair) == 2:
            things.extend(things_of(pair[1]))
    rising = []
    # Values may stand deeper within one another than keys of a dict may: the same ones meet by their order.
    for thing in sorted(things, key=order_key):
        if len(rising) == 0 or rising[-1] != thing:
            rising.append(thing)
    return tuple(rising)


def place_of(value, among):
    """How many things of the second value go ahead of the first."""
    return sum([1 for thing in things_of(among) if is_ahead(thing, value)])
