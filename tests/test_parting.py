"""The row of pegs by which two hands are parted: point 13."""

import itertools
import unittest

from namelesshall.changed import exchanged, marked
from namelesshall.leadings import leadings
from namelesshall.numbers import numbers_of_two
from namelesshall.parting import parted
from samples import ALONE, MIXED, OWN_TIE, SELF_TIED, SEVERAL, SMALL
from samples import alike_row, changed, covers, eight_handed, late_row, line, ring, small_webs, star


def parts_them(one, hand, other, place, row):
    """Whether this row parts the hands and no beginning of it does; None where it can't be gone."""
    last = None
    for peg in row + (None,):
        if one[hand][0] != other[place][0] or len(one[hand][1]) != len(other[place][1]) or last:
            return True if peg is None else None
        if peg is None:
            return False
        if peg >= len(one[hand][1]):
            return None
        (hand, at), (place, other_at) = one[hand][1][peg], other[place][1][peg]
        last = at != other_at
    return False


def by_words(one, hand, other, place, most):
    """The first row that parts them, by lengths and then as Python sorts them; None behind so many pegs."""
    for many in range(most + 1):
        for row in itertools.product(range(4), repeat=many):
            if parts_them(one, hand, other, place, row):
                return row
    return None


def all_pairs(one, other):
    return itertools.product(range(len(one)), range(len(other)))


class Parted(unittest.TestCase):
    def told(self, one, hand, other, place, row):
        self.assertEqual(parted(one, hand, other, place), row)
        self.assertEqual(parted(other, place, one, hand), row)

    def test_unlike_marks(self):
        self.told(ALONE, 0, ((1, ()),), 0, ())
        self.told(changed(ring(4), 2, mark=1), 2, ring(4), 0, ())
        self.told(line(8), 3, line(8), 4, ())

    def test_unlike_many_pegs(self):
        self.told(ALONE, 0, ((0, ((0, 0),)),), 0, ())
        self.told(marked(line(4), (0, 1, 2, 3), 0), 0, ring(3), 1, ())
        self.told(MIXED, 1, MIXED, 0, ())

    def test_a_peg_to_a_hand_of_an_unlike_mark(self):
        web = changed(ring(5), 2, mark=7)
        self.told(web, 1, web, 4, (0,))
        self.told(web, 3, web, 4, (1,))
        self.told(web, 1, ring(5), 1, (0,))

    def test_a_peg_to_a_hand_of_unlike_many_pegs(self):
        web = marked(line(5), (0, 1, 2, 3, 4), 0)
        self.told(web, 1, web, 2, (0,))
        self.told(web, 3, web, 2, (1,))

    def test_an_unlike_peg_of_hands_alike(self):
        self.told(star(4), 1, star(4), 2, (0,))
        self.told(OWN_TIE, 0, ((0, ((0, 0), (0, 1))),), 0, (0,))
        one = ((0, ((0, 0), (0, 1), (0, 2))),)
        self.told(one, 0, ((0, ((0, 0), (0, 2), (0, 1))),), 0, (1,))
        self.told(SEVERAL, 0, exchanged(SEVERAL, 0, 1, 2), 0, (1,))

    def test_longer_rows(self):
        web = changed(alike_row(8), 0, mark=1)
        self.told(web, 1, web, 2, (0,))
        self.told(web, 2, web, 3, (1, 0))
        self.told(web, 3, web, 4, (0, 1, 0))
        self.told(web, 6, web, 7, (1, 0, 1, 0, 1, 0))
        self.told(web, 2, web, 7, (1, 0))

    def test_the_longest_of_two_rows_of_eight_hands(self):
        web, unmarked = changed(alike_row(8), 0, mark=1), alike_row(8)
        for place in range(8):
            self.told(web, 7, unmarked, place, (0, 1, 0, 1, 0, 1, 0))
        rows = [changed(alike_row(8), hand, mark=1) for hand in range(8)] + [unmarked]
        told = [parted(web, hand, other, place) for other in rows for hand, place in all_pairs(web, other)]
        self.assertEqual(max(len(row) for row in told if row is not None), 7)

    def test_rows_nearly_as_long_as_both_webs_have_hands(self):
        one, other = changed(alike_row(8), 0, mark=1), changed(alike_row(7), 0, mark=1)
        self.told(one, 0, other, 0, (0, 1) * 6 + (0,))
        row = parted(late_row(8), 0, late_row(7), 0)
        self.assertEqual(len(row), 14)
        self.assertTrue(parts_them(late_row(8), 0, late_row(7), 0, row))

    def test_of_several_the_least(self):
        web = changed(ring(3), 0, mark=1)
        self.told(web, 1, web, 2, (0,))
        self.told(changed(ring(4), 0, mark=1), 2, ring(4), 1, (0, 0))
        twice = marked(ring(8), (2, 6), 1)
        self.told(twice, 4, ring(8), 0, (0, 0))
        cross = ((0, ((1, 0), (1, 1), (0, 2))), (5, ((0, 0), (0, 1))))
        other = ((0, ((0, 0), (1, 1), (1, 0))), (5, ((0, 2), (0, 1))))
        self.told(cross, 0, other, 0, (0,))
        self.told(other, 0, exchanged(other, 0, 1, 2), 0, (1,))

    def test_never_parted(self):
        for web in SMALL:
            for hand in range(len(web)):
                self.told(web, hand, web, hand, None)
        for many in range(1, 9):
            for hand in range(many):
                self.told(ring(many), 0, ring(many), hand, None)
                self.told(ring(5), 3, ring(many), hand, None)
        self.told(SELF_TIED, 0, ((3, ((1, 0),)), (3, ((0, 0),))), 1, None)
        for web, lesser, row in covers():
            for told in [row] + leadings(web, lesser):
                for hand, to in enumerate(told):
                    self.told(web, hand, lesser, to, None)


class OfAll(unittest.TestCase):
    def check(self, one, other, most):
        numbers = [numbers_of_two(one, other, turn) for turn in range(len(one) + len(other) + 1)]
        for hand, place in all_pairs(one, other):
            row = parted(one, hand, other, place)
            self.assertEqual(row, parted(other, place, one, hand))
            turns = [turn for turn, (mine, theirs) in enumerate(numbers) if mine[hand] != theirs[place]]
            if row is None:
                self.assertEqual(turns, [])
                continue
            self.assertIs(type(row), tuple)
            self.assertLess(len(row), len(one) + len(other))
            self.assertEqual(len(row), turns[0])
            self.assertIs(parts_them(one, hand, other, place, row), True)
            for many in range(len(row)):
                self.assertIs(parts_them(one, hand, other, place, row[:many]), False)
            if len(row) <= most:
                self.assertEqual(row, by_words(one, hand, other, place, most))

    def test_of_small_webs(self):
        webs = SMALL[:6] + small_webs()[::5]
        for one, other in itertools.product(webs, repeat=2):
            self.check(one, other, 3)

    def test_of_one_web(self):
        for web in small_webs() + eight_handed():
            self.check(web, web, 4)

    def test_of_webs_of_eight_hands(self):
        for one, other in itertools.combinations(eight_handed(), 2):
            self.check(one, other, 2)


if __name__ == "__main__":
    unittest.main()
