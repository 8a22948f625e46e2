"""Webs that several tests use, and what tests ask of any value that is told."""

import itertools


def ring(many):
    """Hands in a ring: peg 0 leads to the next hand, peg 1 to the one ahead."""
    return tuple(
        (0, (((hand + 1) % many, 1), ((hand - 1) % many, 0))) for hand in range(many)
    )


def line(many):
    """Hands in a line: the last peg of each leads to the first peg of the next."""
    web = []
    for hand in range(many):
        pegs = []
        if hand > 0:
            pegs.append((hand - 1, 0 if hand == 1 else 1))
        if hand < many - 1:
            pegs.append((hand + 1, 0))
        web.append((hand % 10, tuple(pegs)))
    return tuple(web)


def alike_row(many):
    """Hands in a row of which none is told by its pegs: free pegs at both ends are tied to themselves."""
    web = []
    for hand in range(many):
        near = [hand + 1, hand - 1] if hand % 2 == 0 else [hand - 1, hand + 1]
        pegs = [(other if 0 <= other < many else hand, peg) for peg, other in enumerate(near)]
        web.append((0, tuple(pegs)))
    return tuple(web)


def late_row(many):
    """A row of hands of three pegs each: only the first one is told, and not ahead of turn 1."""
    web = [(0, ((0, 1), (0, 0), (1, 2)))]
    for hand, (mark, pegs) in enumerate(alike_row(many - 1), 1):
        ends = [(near + 1, place) for near, place in pegs]
        web.append((0, tuple(ends) + ((0 if hand == 1 else hand, 2),)))
    return tuple(web)


def star(arms):
    """One hand with so many pegs, each tied to a hand of one peg."""
    middle = (9, tuple((arm + 1, 0) for arm in range(arms)))
    return (middle,) + tuple((0, ((0, arm),)) for arm in range(arms))


ALONE = ((0, ()),)
SELF_TIED = ((3, ((0, 0),)),)
OWN_TIE = ((0, ((0, 1), (0, 0))),)
CROSSED = ((0, ((0, 2), (0, 3), (0, 0), (0, 1))),)
SEVERAL = ((0, ((1, 1), (1, 0), (1, 2))), (1, ((0, 1), (0, 0), (0, 2))))
MIXED = (
    (9, ((1, 0), (2, 1), (0, 2), (2, 0))),
    (0, ((0, 0),)),
    (5, ((0, 3), (0, 1), (2, 3), (2, 2))),
)

WEBS = (
    [ALONE, SELF_TIED, OWN_TIE, CROSSED, SEVERAL, MIXED]
    + [ring(many) for many in (1, 2, 3, 8, 10, 11, 12, 98, 99)]
    + [line(many) for many in (2, 3, 10, 11, 12, 99)]
    + [star(arms) for arms in (1, 2, 3, 4)]
)


SMALL = [web for web in WEBS if len(web) <= 8]


def changed(web, hand, mark=None, pegs=None):
    """The web with another mark or other pegs at one hand."""
    old_mark, old_pegs = web[hand]
    new = (old_mark if mark is None else mark, old_pegs if pegs is None else pegs)
    return web[:hand] + (new,) + web[hand + 1:]


def peg_changed(web, hand, peg, to):
    """The web with one peg that leads elsewhere."""
    pegs = web[hand][1]
    return changed(web, hand, pegs=pegs[:peg] + (to,) + pegs[peg + 1:])


def lifted(web, sheets, moves):
    """A web over this one and its leading: moves has, for the first peg of some ties, where each sheet goes."""
    to_sheet = {}
    for hand, (mark, pegs) in enumerate(web):
        for peg in range(len(pegs)):
            to_sheet[(hand, peg)] = tuple(range(sheets))
    for (hand, peg), move in moves.items():
        to_sheet[(hand, peg)] = move
        to_sheet[web[hand][1][peg]] = tuple(move.index(sheet) for sheet in range(sheets))
    hands = []
    for sheet in range(sheets):
        for hand, (mark, pegs) in enumerate(web):
            ends = [(to_sheet[(hand, peg)][sheet] * len(web) + near, place)
                    for peg, (near, place) in enumerate(pegs)]
            hands.append((mark, tuple(ends)))
    return tuple(hands), tuple(range(len(web))) * sheets


def covers():
    """Triples (web, lesser, leading) of two, three and four sheets."""
    triples = []
    for sheets in (2, 3, 4):
        on = tuple((sheet + 1) % sheets for sheet in range(sheets))
        back = tuple(-sheet % sheets for sheet in range(sheets))
        about = tuple((1 - sheet) % sheets for sheet in range(sheets))
        for web, moves in (
            (OWN_TIE, {(0, 0): on}),
            (CROSSED, {(0, 0): on, (0, 1): back}),
            (SEVERAL[:1] + ((0, SEVERAL[1][1]),), {(0, 1): on}),
            (MIXED, {(0, 1): on}),
            (MIXED, {(2, 2): about, (0, 3): on}),
            (((4, ((0, 0), (0, 1))),), {(0, 0): back, (0, 1): about}),
            (ring(2), {(0, 0): on}),
            (changed(ring(2), 1, mark=7), {(1, 1): on}),
            (alike_row(2), {(0, 1): back, (1, 1): about}),
        ):
            over, leading = lifted(web, sheets, moves)
            triples.append((over, web, leading))
    triples.append(lifted(SELF_TIED, 2, {(0, 0): (1, 0)})[:1] + (SELF_TIED, (0, 0)))
    return triples


def involutions(things):
    """All ways to tie each of these things to one of them, perhaps to itself."""
    if not things:
        return [{}]
    first, rest = things[0], things[1:]
    told = [{first: first, **ties} for ties in involutions(rest)]
    for other in rest:
        others = tuple(thing for thing in rest if thing != other)
        told.extend({first: other, other: first, **ties} for ties in involutions(others))
    return told


def webs_of(marks, counts):
    """All webs whose hands have these marks and so many pegs."""
    pegs = tuple((hand, peg) for hand, many in enumerate(counts) for peg in range(many))
    webs = []
    for ties in involutions(pegs):
        web = tuple(
            (mark, tuple(ties[(hand, peg)] for peg in range(many)))
            for hand, (mark, many) in enumerate(zip(marks, counts))
        )
        if is_one_piece(web):
            webs.append(web)
    return webs


def is_one_piece(web):
    """Whether ties lead from hand 0 to every hand."""
    near = {0}
    for again in web:
        near |= {end[0] for hand in near for end in web[hand][1]}
    return len(near) == len(web)


def small_webs():
    """Many webs of one to four hands, among them all of some sorts."""
    webs = []
    for counts in ((0,), (1,), (2,), (3,), (1, 1), (2, 1), (2, 2), (3, 2), (1, 2, 2), (2, 2, 2)):
        webs.extend(webs_of((0,) * len(counts), counts))
        webs.extend(webs_of((0,) * (len(counts) - 1) + (5,), counts))
    webs.extend(webs_of((0, 0, 0, 0), (2, 2, 2, 2))[::7])
    webs.extend(webs_of((1, 0, 1, 0), (1, 3, 2, 2))[::5])
    return webs


def eight_handed():
    """Webs of eight hands, some with marks."""
    webs = []
    for web in (ring(8), alike_row(8), late_row(8), line(8)):
        webs.append(web)
        for hand in (0, 3, 7):
            webs.append(changed(web, hand, mark=9))
    return webs


def renamings(many):
    """Some tuples with a new number for each hand: all of them for few hands."""
    if many <= 4:
        return list(itertools.permutations(range(many)))
    forth = tuple(range(many))
    mixed = forth[1::2] + forth[::-2] if many % 2 else forth[1::2] + forth[::2][::-1]
    return [forth, forth[::-1], forth[1:] + forth[:1], forth[:1] + forth[:0:-1], mixed]


def is_plain(value):
    """Whether a value is made of tuples, texts and whole numbers alone."""
    if type(value) is tuple:
        return all(is_plain(thing) for thing in value)
    return type(value) in (int, str)


def is_told(value):
    """Whether a value is a truth, None, or made of tuples, lists, texts and whole numbers alone."""
    if type(value) in (tuple, list):
        return all(type(thing) is not bool and is_told(thing) for thing in value)
    return value is None or type(value) in (int, str, bool)
