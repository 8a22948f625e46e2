"""The least web beneath a web, and webs that are the same but for their hands' numbers."""

from namelesshall.leadings import leadings
from namelesshall.lesser import by_parting
from namelesshall.numbers import numbers_at, stays_from


def beneath(web):
    """The pair of the least web beneath this one and the leading to it."""
    leading = numbers_at(web, stays_from(web))
    return (by_parting(web, leading), leading)


def is_own(web):
    """Whether a web is its own least web but for its hands' numbers."""
    least, leading = beneath(web)
    return len(least) == len(web)


def same(one, other):
    """The least leading of one sheet of the one to the other, or None."""
    if len(one) != len(other):
        return None
    # Between as many hands every leading is of one sheet.
    rows = leadings(one, other)
    if not rows:
        return None
    return rows[0]
