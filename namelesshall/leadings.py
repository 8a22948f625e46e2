"""Leadings: tuples with a hand of another web for each hand of a web, led so that all ties agree."""


def is_leading(web, other, row):
    """Whether this row of numbers is a leading of the web to the other one."""
    if len(row) != len(web):
        return False
    # Python would count numbers below 0 from the end.
    if any(number < 0 or number >= len(other) for number in row):
        return False
    return all(agrees(web, other, row, hand) for hand in range(len(web)))


def agrees(web, other, row, hand):
    """Whether this hand and the one to which it is led have the same mark and ties led so."""
    mark, pegs = web[hand]
    led_mark, led_pegs = other[row[hand]]
    if mark != led_mark:
        return False
    return led_pegs == tuple([(row[near], place) for near, place in pegs])


def leadings(web, other):
    """The list of all leadings of the web to the other one, rising."""
    # Ties lead from hand 0 to every hand, so the hand to which it is led settles all others.
    rows = [row_from(web, other, first) for first in range(len(other))]
    return [row for row in rows if row is not None and is_leading(web, other, row)]


def row_from(web, other, first):
    """The only row that can be a leading with hand 0 led to first, or None where none can."""
    row = [None] * len(web)
    row[0] = first
    waiting = [0]
    while waiting:
        hand = waiting.pop()
        led_pegs = other[row[hand]][1]
        if len(led_pegs) != len(web[hand][1]):
            return None
        for peg, (near, place) in enumerate(web[hand][1]):
            if row[near] is None:
                row[near] = led_pegs[peg][0]
                waiting.append(near)
    return tuple(row)


def followed(first, second):
    """The leading that goes by the first one and then by the second one."""
    return tuple([second[hand] for hand in first])
