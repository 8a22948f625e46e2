"""The least web beneath, and webs the same but for the hands' numbers: points 14, 15 and 16."""

import itertools
import unittest

from namelesshall.beneath import beneath, is_own, same
from namelesshall.changed import exchanged, marked, renamed
from namelesshall.leadings import followed, is_leading, leadings
from namelesshall.lesser import lesser_webs
from namelesshall.numbers import numbers_at, numbers_of_two, stays_from
from namelesshall.webs import look
from samples import ALONE, CROSSED, MIXED, OWN_TIE, SELF_TIED, SEVERAL, SMALL
from samples import alike_row, changed, covers, eight_handed, is_plain, late_row, line, renamings
from samples import ring, small_webs, star

WEBS = SMALL + small_webs() + eight_handed() + [web for web, lesser, row in covers()]


def itself(many):
    return tuple(range(many))


class Least(unittest.TestCase):
    def test_hands_stand_in_the_order_of_the_numbers(self):
        self.assertEqual(beneath(MIXED), (
            ((0, ((2, 0),)), (5, ((2, 3), (2, 1), (1, 3), (1, 2))), (9, ((0, 0), (1, 1), (2, 2), (1, 0)))),
            (2, 0, 1),
        ))
        self.assertEqual(beneath(star(2)), (
            ((0, ((2, 0),)), (0, ((2, 1),)), (9, ((0, 0), (1, 0)))),
            (2, 0, 1),
        ))
        web = changed(alike_row(3), 0, mark=1)
        self.assertEqual(beneath(web), (
            ((0, ((0, 0), (1, 1))), (0, ((2, 0), (0, 1))), (1, ((1, 0), (2, 1)))),
            (2, 1, 0),
        ))

    def test_one_hand(self):
        for web in (ALONE, SELF_TIED, OWN_TIE, CROSSED):
            self.assertEqual(beneath(web), (web, (0,)))

    def test_rings_of_hands_alike(self):
        for many in range(2, 9):
            self.assertEqual(beneath(ring(many)), (OWN_TIE, (0,) * many))

    def test_rings_with_marks(self):
        self.assertEqual(beneath(marked(ring(8), (1, 3, 5, 7), 4)),
                         (changed(ring(2), 1, mark=4), (0, 1, 0, 1, 0, 1, 0, 1)))
        self.assertEqual(beneath(marked(ring(6), (0, 3), 4))[1], (2, 0, 1, 2, 0, 1))
        self.assertEqual(len(beneath(changed(ring(8), 5, mark=1))[0]), 8)

    def test_rows(self):
        self.assertEqual(beneath(alike_row(8)), (((0, ((0, 0), (0, 1))),), (0,) * 8))
        web = marked(alike_row(8), (0, 7), 1)
        self.assertEqual(beneath(web)[1], (3, 2, 1, 0, 0, 1, 2, 3))
        self.assertEqual(len(beneath(late_row(8))[0]), 8)

    def test_webs_of_two_three_and_four_sheets_called_anew(self):
        for web, lesser, row in covers():
            least, leading = beneath(lesser)
            for anew in renamings(len(web))[:5]:
                again = renamed(web, anew)
                told = beneath(again)
                self.assertEqual(told[0], least)
                self.assertEqual(followed(anew, told[1]), followed(row, leading))

    def test_the_leading_goes_by_the_numbers_that_stay(self):
        for web in WEBS:
            told = beneath(web)
            self.assertIs(type(told), tuple)
            least, leading = told
            self.assertIs(look(least), True)
            self.assertTrue(is_plain(told))
            self.assertEqual(leading, numbers_at(web, stays_from(web)))
            self.assertEqual(len(least), max(leading) + 1)
            self.assertTrue(is_leading(web, least, leading))
            self.assertEqual(leadings(web, least), [leading])

    def test_the_least_webs_own_least_web_is_itself(self):
        for web in WEBS:
            least = beneath(web)[0]
            self.assertEqual(beneath(least), (least, itself(len(least))))

    def test_no_lesser_web_has_fewer_hands(self):
        for web in small_webs() + [ring(6), alike_row(6)]:
            self.assertEqual(min(len(lesser) for lesser, parting in lesser_webs(web)), len(beneath(web)[0]))


class Own(unittest.TestCase):
    def test_its_own_least(self):
        for web in (ALONE, SELF_TIED, OWN_TIE, CROSSED, MIXED, SEVERAL, line(8), star(4),
                    changed(ring(8), 3, mark=2), changed(alike_row(8), 0, mark=1), late_row(8)):
            self.assertIs(is_own(web), True)
            self.assertIs(is_own(renamed(web, itself(len(web))[::-1])), True)

    def test_not_its_own_least(self):
        for many in range(2, 9):
            self.assertIs(is_own(ring(many)), False)
        for web, lesser, row in covers():
            self.assertIs(is_own(web), False)
        self.assertIs(is_own(marked(ring(8), (0, 4), 1)), False)

    def test_where_as_many_hands(self):
        for web in WEBS:
            self.assertIs(is_own(web), len(beneath(web)[0]) == len(web))
            self.assertIs(is_own(beneath(web)[0]), True)


class Over(unittest.TestCase):
    """Point 15."""

    def check(self, web, lesser, row):
        least, leading = beneath(web)
        other_least, other_leading = beneath(lesser)
        self.assertEqual(least, other_least)
        self.assertTrue(is_leading(lesser, least, other_leading))
        self.assertEqual(followed(row, other_leading), leading)

    def test_webs_over_which_a_web_lies_have_the_same_least_web(self):
        for web, lesser, row in covers():
            self.check(web, lesser, row)
        for web in small_webs() + [ring(6), alike_row(6), marked(ring(6), (0, 3), 1)]:
            for lesser, parting in lesser_webs(web):
                self.check(web, lesser, parting)

    def test_found_by_leadings_between_many_webs(self):
        for web, lesser in itertools.product(small_webs()[::2], repeat=2):
            for row in leadings(web, lesser):
                self.check(web, lesser, row)

    def test_over_each_hand_lie_as_many(self):
        for web in WEBS:
            least, leading = beneath(web)
            for hand in range(len(least)):
                self.assertEqual(leading.count(hand) * len(least), len(web))


class Same(unittest.TestCase):
    def test_a_web_and_it_called_anew(self):
        for web in SMALL + small_webs() + eight_handed():
            for anew in renamings(len(web))[:6]:
                other = renamed(web, anew)
                row = same(web, other)
                self.assertIs(type(row), tuple)
                self.assertTrue(is_leading(web, other, row))
                self.assertEqual(renamed(web, row), other)

    def test_only_one_such_row(self):
        self.assertEqual(same(MIXED, renamed(MIXED, (2, 0, 1))), (2, 0, 1))
        self.assertEqual(same(renamed(MIXED, (2, 0, 1)), MIXED), (1, 2, 0))
        web = changed(ring(6), 0, mark=1)
        self.assertEqual(same(web, renamed(web, (3, 5, 1, 0, 2, 4))), (3, 5, 1, 0, 2, 4))

    def test_the_least_of_several(self):
        for many in range(1, 9):
            self.assertEqual(same(ring(many), ring(many)), itself(many))
        # Of both ways to turn the row about, hand 0 led to 2 goes ahead of hand 0 led to 3.
        self.assertEqual(same(alike_row(4), renamed(alike_row(4), (3, 0, 1, 2))), (2, 1, 0, 3))
        anew = renamed(ring(4), (2, 1, 0, 3))
        self.assertEqual(same(ring(4), anew), (0, 3, 2, 1))
        for web in small_webs():
            rows = [row for row in itertools.permutations(range(len(web)))
                    if renamed(web, row) == renamed(web, itself(len(web))[::-1])]
            self.assertEqual(same(web, renamed(web, itself(len(web))[::-1])), rows[0])

    def test_a_web_and_itself(self):
        for web in WEBS:
            row = same(web, web)
            self.assertEqual(row, itself(len(web)))

    def test_unlike_many_hands(self):
        for one, other in ((ring(6), ring(3)), (ring(3), ring(6)), (ring(4), ring(5)), (ALONE, MIXED)):
            self.assertIs(same(one, other), None)

    def test_an_unlike_mark(self):
        for hand in range(5):
            self.assertIs(same(ring(5), changed(ring(5), hand, mark=1)), None)
            self.assertIs(same(changed(ring(5), hand, mark=1), ring(5)), None)
            self.assertEqual(same(changed(ring(5), 0, mark=1), changed(ring(5), hand, mark=1))[0], hand)

    def test_two_pegs_exchanged(self):
        self.assertIs(same(ring(5), exchanged(ring(5), 0, 0, 1)), None)
        self.assertIs(same(MIXED, exchanged(MIXED, 0, 0, 1)), None)
        self.assertIs(same(exchanged(SEVERAL, 1, 0, 2), SEVERAL), None)
        self.assertEqual(same(CROSSED, exchanged(CROSSED, 0, 0, 2)), (0,))
        self.assertIs(same(CROSSED, exchanged(CROSSED, 0, 0, 1)), None)

    def test_least_webs_are_the_same_just_where_they_are_as_tuples(self):
        leasts = [beneath(web)[0] for web in WEBS[::3]]
        for one, other in itertools.product(leasts, repeat=2):
            self.assertEqual(same(one, other) is not None, one == other)

    def test_least_webs_are_the_same_just_where_all_numbers_are_shared(self):
        webs = WEBS[::7] + [ring(2), ring(6), OWN_TIE, alike_row(2), alike_row(5)]
        for one, other in itertools.product(webs, repeat=2):
            mine, theirs = numbers_of_two(one, other, len(one) + len(other))
            self.assertEqual(beneath(one)[0] == beneath(other)[0], set(mine) == set(theirs))


if __name__ == "__main__":
    unittest.main()
