"""A web over two webs that have the same least web beneath."""

from namelesshall.beneath import beneath


def together(one, other):
    """(a web over both, its leading to the one, its leading to the other), or None where there is none."""
    least, leading = beneath(one)
    other_least, other_leading = beneath(other)
    if least != other_least:
        return None
    first = (0, other_leading.index(leading[0]))
    pairs = sorted(pairs_from(one, other, first))
    numbers = {pair: number for number, pair in enumerate(pairs)}
    web = tuple([hand_of_pair(one, other, pair, numbers) for pair in pairs])
    return (web, tuple([pair[0] for pair in pairs]), tuple([pair[1] for pair in pairs]))


def pairs_from(one, other, first):
    """All pairs of hands to which one comes from the first pair, by the same pegs in both webs."""
    there = {first: True}
    waiting = [first]
    while waiting:
        pair = waiting.pop()
        for near in near_pairs(one, other, pair):
            if near not in there:
                there[near] = True
                waiting.append(near)
    return list(there)


def near_pairs(one, other, pair):
    """For each peg of both hands of the pair the pair of hands to which it leads."""
    pegs = one[pair[0]][1]
    other_pegs = other[pair[1]][1]
    return [(pegs[peg][0], other_pegs[peg][0]) for peg in range(len(pegs))]


def hand_of_pair(one, other, pair, numbers):
    """The hand of the web over both that is led to the hands of this pair."""
    mark, pegs = one[pair[0]]
    nears = near_pairs(one, other, pair)
    # The pegs are those of both hands: they have the same number in the least web.
    return (mark, tuple([(numbers[near], end[1]) for near, end in zip(nears, pegs)]))
