"""Webs that several tests use, and what tests ask of any value that is told."""


def ring(many):
    """Hands in a ring: peg 0 leads to the next hand, peg 1 to the one ahead."""
    return tuple(
        (0, (((hand + 1) % many, 1), ((hand - 1) % many, 0))) for hand in range(many)
    )


def line(many):
    """Hands in a line: the last peg of each leads to the first peg of the next."""
    web = []
    for hand in range(many):
        pegs = []
        if hand > 0:
            pegs.append((hand - 1, 0 if hand == 1 else 1))
        if hand < many - 1:
            pegs.append((hand + 1, 0))
        web.append((hand % 10, tuple(pegs)))
    return tuple(web)


def star(arms):
    """One hand with so many pegs, each tied to a hand of one peg."""
    middle = (9, tuple((arm + 1, 0) for arm in range(arms)))
    return (middle,) + tuple((0, ((0, arm),)) for arm in range(arms))


ALONE = ((0, ()),)
SELF_TIED = ((3, ((0, 0),)),)
OWN_TIE = ((0, ((0, 1), (0, 0))),)
CROSSED = ((0, ((0, 2), (0, 3), (0, 0), (0, 1))),)
SEVERAL = ((0, ((1, 1), (1, 0), (1, 2))), (1, ((0, 1), (0, 0), (0, 2))))
MIXED = (
    (9, ((1, 0), (2, 1), (0, 2), (2, 0))),
    (0, ((0, 0),)),
    (5, ((0, 3), (0, 1), (2, 3), (2, 2))),
)

WEBS = (
    [ALONE, SELF_TIED, OWN_TIE, CROSSED, SEVERAL, MIXED]
    + [ring(many) for many in (1, 2, 3, 8, 10, 11, 12, 98, 99)]
    + [line(many) for many in (2, 3, 10, 11, 12, 99)]
    + [star(arms) for arms in (1, 2, 3, 4)]
)


def changed(web, hand, mark=None, pegs=None):
    """The web with another mark or other pegs at one hand."""
    old_mark, old_pegs = web[hand]
    new = (old_mark if mark is None else mark, old_pegs if pegs is None else pegs)
    return web[:hand] + (new,) + web[hand + 1:]


def peg_changed(web, hand, peg, to):
    """The web with one peg that leads elsewhere."""
    pegs = web[hand][1]
    return changed(web, hand, pegs=pegs[:peg] + (to,) + pegs[peg + 1:])


def is_plain(value):
    """Whether a value is made of tuples, texts and whole numbers alone."""
    if type(value) is tuple:
        return all(is_plain(thing) for thing in value)
    return type(value) in (int, str)
