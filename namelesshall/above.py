"""Webs above a web: so many sheets of it, tied into one piece."""


def above(web, sheets):
    """The pair of a web over this one with so many sheets and its leading, or None where there is none."""
    crossing = crossing_pegs(web, sheets)
    if crossing is None:
        return None
    hands = []
    for sheet in range(sheets):
        for hand in range(len(web)):
            hands.append((web[hand][0], ends_above(web, hand, sheet, crossing)))
    leading = tuple(range(len(web))) * sheets
    return (tuple(hands), leading)


def ends_above(web, hand, sheet, crossing):
    """Where the pegs of this hand on this sheet lead; sheet by sheet the hands are numbered as in the web."""
    ends = []
    for peg, (near, place) in enumerate(web[hand][1]):
        to = sheet
        if (hand, peg) in crossing:
            to = crossing[(hand, peg)][sheet]
        ends.append((to * len(web) + near, place))
    return tuple(ends)


def crossing_pegs(web, sheets):
    """For pegs that leave their sheet the sheets to which they lead, so that all hang together, or None."""
    if sheets == 1:
        return {}
    ties = spare_ties(web)
    for start, end in ties:
        if start != end:
            return {start: shifted(sheets, 1), end: shifted(sheets, -1)}
    # What is left are pegs tied to themselves: each leads back, so one alone ties no more than two sheets;
    # by the one and then by the other one comes from each sheet to the next.
    if len(ties) > 1:
        return {ties[0][0]: mirrored(sheets, 0), ties[1][0]: mirrored(sheets, 1)}
    if len(ties) == 1 and sheets == 2:
        return {ties[0][0]: mirrored(sheets, 1)}
    return None


def shifted(sheets, by):
    """For each sheet the one so many behind it, around."""
    return [(sheet + by) % sheets for sheet in range(sheets)]


def mirrored(sheets, sum_of_both):
    """For each sheet the one with which it has this sum, around."""
    return [(sum_of_both - sheet) % sheets for sheet in range(sheets)]


def spare_ties(web):
    """The ties (peg, peg), each once, that are left beside a tree of ties to all hands."""
    in_tree = tree_pegs(web)
    ties = []
    for hand, (mark, pegs) in enumerate(web):
        for peg, end in enumerate(pegs):
            if (hand, peg) <= end and (hand, peg) not in in_tree:
                ties.append(((hand, peg), end))
    return ties


def tree_pegs(web):
    """The pegs, as keys, of the ties of a tree that leads from hand 0 to all hands."""
    in_tree = {}
    there = [False] * len(web)
    there[0] = True
    waiting = [0]
    while waiting:
        hand = waiting.pop()
        for peg, (near, place) in enumerate(web[hand][1]):
            if not there[near]:
                there[near] = True
                in_tree[(hand, peg)] = True
                in_tree[(near, place)] = True
                waiting.append(near)
    return in_tree
