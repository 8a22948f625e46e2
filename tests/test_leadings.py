"""Leadings: points 7 and 8."""

import itertools
import unittest

from namelesshall.changed import exchanged, marked, renamed
from namelesshall.leadings import followed, is_leading, leadings
from samples import ALONE, CROSSED, MIXED, OWN_TIE, SELF_TIED, SEVERAL, SMALL
from samples import alike_row, changed, covers, line, ring, small_webs, star

FAR = 10 ** 30


def itself(web):
    """The leading of a web to itself."""
    return tuple(range(len(web)))


def by_words(web, other, row):
    """What point 7 says of a leading, word by word."""
    if len(row) != len(web) or any(to not in range(len(other)) for to in row):
        return False
    for hand, to in enumerate(row):
        if web[hand][0] != other[to][0] or len(web[hand][1]) != len(other[to][1]):
            return False
        for p, (g, q) in enumerate(web[hand][1]):
            if other[to][1][p][0] != row[g] or other[to][1][p][1] != q:
                return False
    return True


class Led(unittest.TestCase):
    def led(self, web, other, row):
        self.assertIs(is_leading(web, other, row), True, (web, other, row))

    def test_a_web_to_itself(self):
        for web in SMALL:
            self.led(web, web, itself(web))

    def test_one_sheet(self):
        web = ((0, ((1, 0),)), (5, ((0, 0), (1, 1))))
        self.led(web, ((5, ((1, 0), (0, 1))), (0, ((0, 0),))), (1, 0))
        self.led(ring(4), ring(4), (2, 3, 0, 1))

    def test_two_three_and_four_sheets(self):
        self.led(ring(6), ring(3), (0, 1, 2, 0, 1, 2))
        self.led(ring(6), ring(2), (1, 0, 1, 0, 1, 0))
        self.led(ring(8), ring(2), (0, 1, 0, 1, 0, 1, 0, 1))
        self.led(ring(4), ring(1), (0, 0, 0, 0))
        for web, lesser, row in covers():
            self.led(web, lesser, row)

    def test_a_tie_within_a_hand(self):
        self.led(OWN_TIE, OWN_TIE, (0,))
        self.led(ring(2), OWN_TIE, (0, 0))
        self.led(CROSSED, CROSSED, (0,))
        pair = ((0, ((1, 2), (1, 3), (1, 0), (1, 1))), (0, ((0, 2), (0, 3), (0, 0), (0, 1))))
        self.led(pair, CROSSED, (0, 0))

    def test_a_peg_tied_to_itself(self):
        self.led(SELF_TIED, SELF_TIED, (0,))
        self.led(((3, ((1, 0),)), (3, ((0, 0),))), SELF_TIED, (0, 0))
        self.led(alike_row(8), alike_row(4), (0, 1, 2, 3, 3, 2, 1, 0))

    def test_several_ties_between_two_hands(self):
        self.led(SEVERAL, SEVERAL, (0, 1))
        over = (
            (0, ((1, 1), (3, 0), (1, 2))), (1, ((2, 1), (0, 0), (0, 2))),
            (0, ((3, 1), (1, 0), (3, 2))), (1, ((0, 1), (2, 0), (2, 2))),
        )
        self.led(over, SEVERAL, (0, 1, 0, 1))


class NotLed(unittest.TestCase):
    def not_led(self, web, other, row):
        self.assertIs(is_leading(web, other, row), False, (web, other, row))

    def test_too_short_too_long_and_empty(self):
        for web in SMALL:
            self.not_led(web, web, ())
            self.not_led(web, web, itself(web)[:-1])
            self.not_led(web, web, itself(web) + (0,))
            self.not_led(web, web, itself(web) * 2)
        self.not_led(ring(6), ring(3), (0, 1, 2))

    def test_a_number_of_no_hand(self):
        for web in SMALL:
            for hand in range(len(web)):
                # Counted from the end hand - len(web) would be the hand itself.
                for number in (-1, hand - len(web), -FAR, len(web), len(web) + 1, FAR):
                    row = itself(web)[:hand] + (number,) + itself(web)[hand + 1:]
                    self.not_led(web, web, row)
        self.not_led(ring(6), ring(3), (0, 1, 2, 3, 4, 5))
        self.not_led(ring(6), ring(3), (-3, -2, -1, -3, -2, -1))

    def test_two_numbers_exchanged(self):
        self.not_led(ring(4), ring(4), (1, 0, 2, 3))
        self.not_led(ring(6), ring(3), (0, 1, 2, 0, 2, 1))
        self.not_led(MIXED, MIXED, (0, 2, 1))
        self.not_led(star(4), star(4), (0, 1, 2, 4, 3))

    def test_an_unlike_mark(self):
        for hand in range(4):
            self.not_led(ring(4), changed(ring(4), hand, mark=1), (0, 1, 2, 3))
            self.not_led(changed(ring(4), hand, mark=1), ring(4), (0, 1, 2, 3))
        self.not_led(SELF_TIED, ((4, ((0, 0),)),), (0,))

    def test_an_unlike_number_of_pegs(self):
        one, two = ((0, ((0, 0),)),), ((0, ((0, 0), (0, 1))),)
        self.not_led(one, two, (0,))
        self.not_led(two, one, (0,))
        self.not_led(ALONE, one, (0,))
        self.not_led(one, ALONE, (0,))
        more = changed(line(4), 3, pegs=line(4)[3][1] + ((3, 1),))
        self.not_led(line(4), more, (0, 1, 2, 3))
        self.not_led(more, line(4), (0, 1, 2, 3))

    def test_the_right_hand_but_another_peg(self):
        self.not_led(OWN_TIE, ((0, ((0, 0), (0, 1))),), (0,))
        crossed = ((0, ((1, 0), (1, 1))), (0, ((0, 0), (0, 1))))
        self.not_led(ring(2), crossed, (0, 1))
        self.not_led(crossed, ring(2), (0, 1))
        self.not_led(SEVERAL, exchanged(SEVERAL, 1, 0, 1), (0, 1))

    def test_the_right_peg_of_another_hand(self):
        twice = ((0, ((1, 0), (1, 1))), (0, ((0, 0), (0, 1))))
        alone = ((0, ((0, 0), (1, 1))), (0, ((1, 0), (0, 1))))
        self.not_led(twice, alone, (0, 1))
        self.not_led(alone, twice, (0, 1))
        self.not_led(ring(6), ring(6), (0, 1, 2, 3, 5, 4))

    def test_another_web(self):
        self.not_led(ring(3), ring(6), (0, 1, 2))
        self.not_led(ring(3), ring(2), (0, 1, 0))
        self.not_led(ring(4), ring(6), (0, 1, 2, 3))
        self.not_led(ring(4), alike_row(4), (0, 1, 2, 3))
        self.not_led(MIXED, ring(3), (0, 1, 2))
        self.not_led(star(2), ALONE, (0, 0, 0))
        self.not_led(ALONE, MIXED, (0,))


class AllRows(unittest.TestCase):
    def test_every_row_of_small_webs(self):
        webs = [web for web in small_webs() if len(web) <= 3][::3] + [OWN_TIE, SELF_TIED, ring(3)]
        for web, other in itertools.product(webs, repeat=2):
            rows = itertools.product(range(len(other)), repeat=len(web))
            right = [row for row in rows if by_words(web, other, row)]
            self.assertEqual(leadings(web, other), right, (web, other))
            for row in itertools.product(range(-1, len(other) + 1), repeat=len(web)):
                self.assertIs(is_leading(web, other, row), row in right, (web, other, row))

    def test_every_hand_has_as_many_hands_led_to_it(self):
        for web, other in itertools.product(small_webs()[::2], repeat=2):
            for row in leadings(web, other):
                counts = {row.count(hand) for hand in range(len(other))}
                self.assertEqual(counts, {len(web) // len(other)})


class All(unittest.TestCase):
    def test_none(self):
        for web, other in (
            (ALONE, SELF_TIED), (ring(3), ring(6)), (ring(3), ring(2)), (MIXED, SEVERAL),
            (changed(ring(4), 0, mark=1), ring(4)), (ring(4), changed(ring(4), 0, mark=1)),
            (ring(4), alike_row(4)), (exchanged(SEVERAL, 1, 0, 1), SEVERAL),
        ):
            self.assertEqual(leadings(web, other), [])
            self.assertIs(type(leadings(web, other)), list)

    def test_one(self):
        self.assertEqual(leadings(ALONE, ALONE), [(0,)])
        self.assertEqual(leadings(MIXED, MIXED), [(0, 1, 2)])
        self.assertEqual(leadings(ring(8), ring(1)), [(0,) * 8])
        marked_ring = changed(ring(6), 4, mark=1)
        self.assertEqual(leadings(marked_ring, marked_ring), [(0, 1, 2, 3, 4, 5)])

    def test_as_many_as_the_other_web_has_hands(self):
        self.assertEqual(leadings(ring(6), ring(3)),
                         [(0, 1, 2, 0, 1, 2), (1, 2, 0, 1, 2, 0), (2, 0, 1, 2, 0, 1)])
        for many in range(1, 9):
            turned = [tuple((hand + first) % many for hand in range(many)) for first in range(many)]
            self.assertEqual(leadings(ring(many), ring(many)), turned)

    def test_more_than_one_and_fewer_than_hands(self):
        self.assertEqual(leadings(alike_row(4), alike_row(4)), [(0, 1, 2, 3), (3, 2, 1, 0)])
        twice = marked(ring(8), (1, 5), 3)
        self.assertEqual(leadings(twice, twice), [(0, 1, 2, 3, 4, 5, 6, 7), (4, 5, 6, 7, 0, 1, 2, 3)])

    def test_a_web_to_itself_and_called_anew(self):
        for web in SMALL + small_webs():
            rows = leadings(web, web)
            self.assertIn(itself(web), rows)
            self.assertLessEqual(len(rows), len(web))
            row = itself(web)[::-1]
            anew = renamed(web, row)
            self.assertIn(row, leadings(web, anew))
            self.assertEqual(leadings(web, anew), sorted(followed(old, row) for old in rows))

    def test_each_is_one_and_they_rise(self):
        for web, lesser, row in covers():
            rows = leadings(web, lesser)
            self.assertIn(row, rows)
            self.assertEqual(rows, sorted(set(rows)))
            for told in rows:
                self.assertTrue(by_words(web, lesser, told))
                self.assertIs(type(told), tuple)

    def test_the_list_is_the_askers_own(self):
        for web, other in ((ring(6), ring(3)), (ring(3), ring(6))):
            first = leadings(web, other)
            kept = list(first)
            first.append("more")
            first.reverse()
            self.assertEqual(leadings(web, other), kept)
            self.assertIsNot(leadings(web, other), leadings(web, other))


class Followed(unittest.TestCase):
    def test_rings(self):
        self.assertEqual(followed((0, 1, 2, 3, 0, 1, 2, 3), (1, 0, 1, 0)), (1, 0, 1, 0, 1, 0, 1, 0))
        self.assertEqual(followed((2, 0, 1), (0, 0, 0)), (0, 0, 0))
        self.assertEqual(followed((2, 0, 1), (1, 2, 0)), (0, 1, 2))
        self.assertEqual(followed((2, 0, 1), (0, 2, 1)), (1, 0, 2))

    def test_first_and_then_second_is_a_leading(self):
        for many, fewer, fewest in ((8, 4, 2), (8, 2, 1), (6, 6, 3), (6, 3, 3), (8, 8, 4)):
            webs = ring(many), ring(fewer), ring(fewest)
            for first in leadings(webs[0], webs[1]):
                for second in leadings(webs[1], webs[2]):
                    row = followed(first, second)
                    self.assertIs(type(row), tuple)
                    self.assertEqual(len(row), many)
                    self.assertEqual([row[hand] for hand in range(many)],
                                     [second[first[hand]] for hand in range(many)])
                    self.assertTrue(is_leading(webs[0], webs[2], row))

    def test_with_that_of_a_web_to_itself_it_stays(self):
        for web, lesser, row in covers():
            self.assertEqual(followed(row, itself(lesser)), row)
            self.assertEqual(followed(itself(web), row), row)

    def test_of_all_covers(self):
        for web, lesser, row in covers():
            anew = itself(lesser)[::-1]
            self.assertTrue(is_leading(web, renamed(lesser, anew), followed(row, anew)))


if __name__ == "__main__":
    unittest.main()
