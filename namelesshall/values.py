"""Values: whole numbers from 0 on, and bundles, tuples of values."""


def is_bundle(value):
    """Whether a value is a bundle."""
    return isinstance(value, tuple)


def parts(value):
    """How many values are in this one, itself too."""
    if not is_bundle(value):
        return 1
    return 1 + sum([parts(thing) for thing in value])


def within(value):
    """How many values of this one, itself too, stand within one another."""
    if not is_bundle(value) or len(value) == 0:
        return 1
    return 1 + max([within(thing) for thing in value])


def is_ahead(one, other):
    """Whether the one value goes ahead of the other one."""
    if not is_bundle(one) and not is_bundle(other):
        return one < other
    if not is_bundle(one) or not is_bundle(other):
        return is_bundle(other)
    if len(one) != len(other):
        return len(one) < len(other)
    for thing, other_thing in zip(one, other):
        if thing != other_thing:
            return is_ahead(thing, other_thing)
    return False


def order_key(value):
    """What Python's tuples are sorted by as values are in order."""
    if not is_bundle(value):
        return (0, value)
    return (1, len(value), tuple([order_key(thing) for thing in value]))


def show_value(value):
    """The text of a value."""
    if not is_bundle(value):
        return str(value)
    things = " ".join([show_value(thing) for thing in value])
    return f"[{things}]"
