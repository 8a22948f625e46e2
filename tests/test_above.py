"""Webs above a web: point 20."""

import itertools
import unittest

from namelesshall.above import above
from namelesshall.beneath import beneath
from namelesshall.changed import marked, renamed
from namelesshall.leadings import is_leading
from namelesshall.webs import look
from samples import ALONE, CROSSED, MIXED, OWN_TIE, SELF_TIED, SEVERAL, SMALL
from samples import alike_row, changed, is_one_piece, is_plain, late_row, lifted, line, renamings, ring, small_webs, star

SHEETS = (2, 3, 4)
TREES = [ALONE, star(1), star(2), star(3), star(4)] + [line(many) for many in range(2, 9)]


def with_self_tied(web, hand):
    """The web with one peg more at this hand, tied to itself."""
    pegs = web[hand][1]
    return changed(web, hand, pegs=pegs + ((hand, len(pegs)),))


def with_tie(web, one, other):
    """The web with one tie more between these hands, perhaps within one."""
    first = (one, len(web[one][1]))
    second = (other, len(web[other][1]) + (1 if one == other else 0))
    web = changed(web, one, pegs=web[one][1] + (second,))
    return changed(web, other, pegs=web[other][1] + (first,))


def ties_of(web):
    """Each tie once, as the pair of its pegs."""
    ties = []
    for hand, (mark, pegs) in enumerate(web):
        for peg, end in enumerate(pegs):
            if (hand, peg) <= end:
                ties.append(((hand, peg), end))
    return ties


def is_one_there(web, sheets):
    """Whether some way to tie the sheets, tie by tie, makes one piece."""
    ways = []
    for start, end in ties_of(web):
        moves = list(itertools.permutations(range(sheets)))
        if start == end:
            moves = [move for move in moves if all(move[move[sheet]] == sheet for sheet in range(sheets))]
        ways.append([(start, move) for move in moves])
    return any(is_one_piece(lifted(web, sheets, dict(way))[0]) for way in itertools.product(*ways))


class Above(unittest.TestCase):
    def there(self, web, sheets):
        told = above(web, sheets)
        self.assertIs(type(told), tuple, (web, sheets))
        over, leading = told
        self.assertIs(look(over), True)
        self.assertTrue(is_plain(told))
        self.assertEqual(len(over), len(web) * sheets)
        self.assertTrue(is_leading(over, web, leading))
        for hand in range(len(web)):
            self.assertEqual(leading.count(hand), sheets)
        self.assertEqual(beneath(over)[0], beneath(web)[0])

    def none(self, web, sheets):
        self.assertIs(above(web, sheets), None, (web, sheets))

    def test_one_sheet(self):
        for web in SMALL + small_webs() + TREES:
            self.there(web, 1)

    def test_trees(self):
        for web in TREES:
            for sheets in SHEETS:
                self.none(web, sheets)

    def test_trees_called_anew(self):
        for web in (line(4), star(3)):
            for row in renamings(4):
                for sheets in SHEETS:
                    self.none(renamed(web, row), sheets)

    def test_a_tree_and_one_peg_tied_to_itself(self):
        webs = [SELF_TIED] + [
            with_self_tied(web, hand) for web in TREES[:4] + TREES[5:8]
            for hand in range(len(web)) if len(web[hand][1]) < 4
        ]
        for web in webs:
            self.there(web, 2)
            self.none(web, 3)
            self.none(web, 4)

    def test_two_and_more_pegs_tied_to_themselves(self):
        webs = [((0, tuple((0, peg) for peg in range(many))),) for many in (2, 3, 4)]
        webs += [alike_row(many) for many in (1, 2, 3, 4)]
        for one, other in itertools.product(range(4), repeat=2):
            webs.append(with_self_tied(with_self_tied(line(4), one), other))
        for web in webs:
            for sheets in SHEETS:
                self.there(web, sheets)

    def test_a_tie_within_a_hand(self):
        webs = [OWN_TIE, CROSSED] + [with_tie(line(4), hand, hand) for hand in range(4)]
        for web in webs:
            for sheets in SHEETS:
                self.there(web, sheets)

    def test_two_ties_between_two_hands(self):
        webs = [SEVERAL, ring(2)] + [with_tie(line(4), hand, hand + 1) for hand in range(3)]
        for web in webs:
            for sheets in SHEETS:
                self.there(web, sheets)

    def test_rings(self):
        for many in range(1, 9):
            for sheets in SHEETS:
                if many * sheets <= 16:
                    self.there(ring(many), sheets)
                    self.there(marked(ring(many), (0,), 4), sheets)

    def test_a_tree_with_one_tie_more(self):
        for web in (line(4), star(3)):
            for one, other in itertools.combinations(range(4), 2):
                for row in renamings(4)[::5]:
                    for sheets in SHEETS:
                        self.there(renamed(with_tie(web, one, other), row), sheets)

    def test_first_a_peg_tied_to_itself_and_then_a_tie_and_the_other_way_about(self):
        for web in (ALONE, line(2), line(3), line(4)):
            for one, other in itertools.product(range(len(web)), repeat=2):
                for hand in range(len(web)):
                    for sheets in SHEETS:
                        first = with_tie(with_self_tied(web, hand), one, other)
                        second = with_self_tied(with_tie(web, one, other), hand)
                        if has_few_pegs(first):
                            self.there(first, sheets)
                        if has_few_pegs(second):
                            self.there(second, sheets)

    def test_found_again_by_going_through_all_ways(self):
        webs = [web for web in SMALL + small_webs() if len(ties_of(web)) <= 3]
        for web in webs + [MIXED]:
            for sheets in (1, 2, 3):
                if is_one_there(web, sheets):
                    self.there(web, sheets)
                else:
                    self.none(web, sheets)
        for web in webs:
            if len(ties_of(web)) <= 2:
                self.assertEqual(is_one_there(web, 4), above(web, 4) is not None)

    def test_of_many_webs(self):
        for web in small_webs() + [MIXED, late_row(4), late_row(5)]:
            for sheets in SHEETS:
                ties = ties_of(web)
                own = [start for start, end in ties if start == end]
                extra = len(ties) - (len(web) - 1)
                if extra == 0 or (extra == 1 and own and sheets > 2):
                    self.none(web, sheets)
                else:
                    self.there(web, sheets)

    def test_what_is_told_is_handed_on(self):
        for web in (OWN_TIE, ring(2), alike_row(2)):
            over, leading = above(web, 2)
            self.there(over, 2)
            self.there(over, 4)


def has_few_pegs(web):
    """Whether no hand has more than four pegs."""
    return all(len(pegs) <= 4 for mark, pegs in web)


if __name__ == "__main__":
    unittest.main()
