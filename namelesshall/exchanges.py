"""The fewest exchanges of pegs that make a web its own least, and that no fewer do."""

from namelesshall.beneath import beneath, is_own
from namelesshall.changed import exchanged

MOST_EXCHANGES = 2


def fewest(web):
    """The least of the shortest tuples of exchanges that make the web its own least; None where two aren't enough."""
    for many in range(MOST_EXCHANGES + 1):
        for row in rows_of_exchanges(web, many):
            if is_own(exchanged_by(web, row)):
                return row
    return None


def none_fewer(web, many):
    """(exchanges, least, leading) for each tuple of fewer than so many exchanges: what lies beneath the web so."""
    told = []
    for fewer in range(many):
        for row in rows_of_exchanges(web, fewer):
            least, leading = beneath(exchanged_by(web, row))
            told.append((row, least, leading))
    return told


def rows_of_exchanges(web, many):
    """All tuples of so many exchanges, rising."""
    rows = [()]
    for again in range(many):
        rows = [row + (exchange,) for row in rows for exchange in single_exchanges(web)]
    return rows


def single_exchanges(web):
    """All exchanges (hand, p, q) of two unlike pegs, p below q, rising."""
    exchanges = []
    for hand, (mark, pegs) in enumerate(web):
        for p in range(len(pegs)):
            for q in range(p + 1, len(pegs)):
                exchanges.append((hand, p, q))
    return exchanges


def exchanged_by(web, row):
    """The web behind these exchanges, one after the other."""
    for hand, p, q in row:
        web = exchanged(web, hand, p, q)
    return web
