"""Webs by partings of a web's hands, and all lesser webs."""

from namelesshall.leadings import is_leading


def by_parting(web, parting):
    """The web with a hand for each number of the parting, which must be a leading to it."""
    hands = []
    for number in range(max(parting) + 1):
        # All hands of one number have the same mark and ties led so: the first one tells.
        mark, pegs = web[parting.index(number)]
        hands.append((mark, tuple([(parting[near], place) for near, place in pegs])))
    return tuple(hands)


def lesser_webs(web):
    """All pairs (web, parting) where the parting is a leading to the web by it: by hands, then by partings."""
    pairs = []
    for parting in partings(len(web)):
        lesser = by_parting(web, parting)
        if is_leading(web, lesser, parting):
            pairs.append((lesser, parting))
    return sorted(pairs, key=lambda pair: (len(pair[0]), pair[1]))


def partings(many):
    """All partings by numbers of so many hands."""
    rows = [(0,)]
    for hand in range(1, many):
        rows = [row + (number,) for row in rows for number in range(max(row) + 2)]
    return rows
