"""Values: whole numbers from 0 on, and bundles, tuples of values."""


def is_bundle(value):
    """Whether a value is a bundle."""
    return isinstance(value, tuple)


def parts(value):
    """How many values are in this one, itself too."""
    if not is_bundle(value):
        return 1
    return 1 + sum([parts(thing) for thing in value])


def is_ahead(one, other):
    """Whether the one value goes ahead of the other one."""
    if not is_bundle(one) and not is_bundle(other):
        return one < other
    if not is_bundle(one) or not is_bundle(other):
        return is_bundle(other)
    if len(one) != len(other):
        return len(one) < len(other)
    for thing, other_thing in zip(one, other):
        if thing != other_thing:
            return is_ahead(thing, other_thing)
    return False


def show_value(value):
    """The text of a value."""
    if not is_bundle(value):
        return str(value)
    things = " ".join([show_value(thing) for thing in value])
    return f"[{things}]"
