"""Webs made from a web: called anew, marked, with two pegs of a hand exchanged."""


def renamed(web, row):
    """The web whose hand of the number row[hand] is this hand."""
    hands = [None] * len(web)
    for hand, (mark, pegs) in enumerate(web):
        hands[row[hand]] = (mark, tuple([(row[near], place) for near, place in pegs]))
    return tuple(hands)


def marked(web, hands, mark):
    """The web in which these hands have this mark."""
    new = []
    for hand, (old_mark, pegs) in enumerate(web):
        new.append((mark if hand in hands else old_mark, pegs))
    return tuple(new)


def exchanged(web, hand, p, q):
    """The web in which pegs p and q of this hand have changed places, with all that is tied to them."""
    new = []
    for at, (mark, pegs) in enumerate(web):
        ends = [end_behind(end, hand, p, q) for end in pegs]
        if at == hand:
            ends[p], ends[q] = ends[q], ends[p]
        new.append((mark, tuple(ends)))
    return tuple(new)


def end_behind(end, hand, p, q):
    """Where the peg stands, behind the exchange, that stood at this end ahead of it."""
    if end == (hand, p):
        return (hand, q)
    if end == (hand, q):
        return (hand, p)
    return end
