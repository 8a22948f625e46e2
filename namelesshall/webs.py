"""Webs: tuples of hands (mark, pegs), pegs a tuple of the (hand, peg) to which each leads."""

from namelesshall.errors import NoWeb

MOST_MARK = 9
MOST_PEGS = 4


def look(web):
    """True for a web; else NoWeb with the first refusal that is due."""
    if len(web) == 0:
        raise NoWeb("hands", 0)
    for hand in range(len(web)):
        word = wrong_word(web, hand)
        if word is not None:
            raise NoWeb(word, hand)
    for hand, there in enumerate(reached(web)):
        if not there:
            raise NoWeb("apart", hand)
    return True


def wrong_word(web, hand):
    """The word by which this hand is refused, or None."""
    mark, pegs = web[hand]
    if mark < 0 or mark > MOST_MARK:
        return "mark"
    if len(pegs) > MOST_PEGS:
        return "pegs"
    for peg in range(len(pegs)):
        if not leads_back(web, hand, peg):
            return "tie"
    return None


def leads_back(web, hand, peg):
    """Whether this peg leads to a peg that is there and leads back to it."""
    other, place = web[hand][1][peg]
    # Python would count numbers below 0 from the end.
    if other < 0 or other >= len(web):
        return False
    pegs = web[other][1]
    if place < 0 or place >= len(pegs):
        return False
    return pegs[place] == (hand, peg)


def reached(web):
    """For each hand whether ties lead to it from hand 0; every tie must lead to a hand."""
    there = [False] * len(web)
    there[0] = True
    waiting = [0]
    while waiting:
        hand = waiting.pop()
        for other, place in web[hand][1]:
            if not there[other]:
                there[other] = True
                waiting.append(other)
    return there
