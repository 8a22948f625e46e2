"""A web over two webs: point 19, and 3 as far as it speaks of this."""

import itertools
import unittest

from namelesshall.beneath import beneath, is_own, same
from namelesshall.changed import exchanged, marked, renamed
from namelesshall.leadings import followed, is_leading, leadings
from namelesshall.lesser import by_parting, lesser_webs
from namelesshall.numbers import numbers_at, numbers_of_two, stays_from
from namelesshall.parting import parted
from namelesshall.stories import story
from namelesshall.together import together
from namelesshall.webs import look
from namelesshall.webtexts import read_web, show_web
from samples import ALONE, CROSSED, MIXED, OWN_TIE, SELF_TIED, SEVERAL, SMALL
from samples import alike_row, changed, covers, eight_handed, is_plain, lifted, renamings, ring, small_webs


def by_words(one, other):
    """What point 19 says of the web over both, word by word."""
    leading, other_leading = beneath(one)[1], beneath(other)[1]
    near = {(0, min(hand for hand in range(len(other)) if other_leading[hand] == leading[0]))}
    while True:
        more = near | {
            (one[hand][1][peg][0], other[place][1][peg][0])
            for hand, place in near for peg in range(len(one[hand][1]))
        }
        if more == near:
            break
        near = more
    pairs = sorted(near)
    web = []
    for hand, place in pairs:
        mark, pegs = one[hand]
        other_pegs = other[place][1]
        web.append((mark, tuple((pairs.index((pegs[peg][0], other_pegs[peg][0])), pegs[peg][1])
                                for peg in range(len(pegs)))))
    return tuple(web), tuple(hand for hand, place in pairs), tuple(place for hand, place in pairs)


class Together(unittest.TestCase):
    def check(self, one, other):
        told = together(one, other)
        self.assertIs(type(told), tuple)
        self.assertTrue(is_plain(told))
        web, f, g = told
        self.assertIs(look(web), True)
        self.assertTrue(is_leading(web, one, f))
        self.assertTrue(is_leading(web, other, g))
        pairs = list(zip(f, g))
        self.assertEqual(pairs, sorted(set(pairs)))
        self.assertEqual(beneath(web)[0], beneath(one)[0])
        self.assertEqual(beneath(web)[0], beneath(other)[0])
        self.assertEqual(told, by_words(one, other))
        return told

    def test_two_rings(self):
        self.assertEqual(self.check(ring(2), ring(3)), (
            (
                (0, ((4, 1), (5, 0))), (0, ((5, 1), (3, 0))), (0, ((3, 1), (4, 0))),
                (0, ((1, 1), (2, 0))), (0, ((2, 1), (0, 0))), (0, ((0, 1), (1, 0))),
            ),
            (0, 0, 0, 1, 1, 1),
            (0, 1, 2, 0, 1, 2),
        ))
        for many, others in ((2, 4), (4, 6), (6, 8), (7, 8), (3, 3), (1, 8)):
            web, f, g = self.check(ring(many), ring(others))
            hands = next(hands for hands in range(1, 65) if hands % many == 0 and hands % others == 0)
            self.assertIsNotNone(same(web, ring(hands)))

    def test_a_web_and_itself(self):
        for web in SMALL + small_webs() + eight_handed():
            told, f, g = self.check(web, web)
            self.assertEqual((told, f, g), (web, tuple(range(len(web))), tuple(range(len(web)))))

    def test_the_least_hand_of_the_other_led_alike(self):
        web = marked(ring(6), (1, 4), 5)
        for many in range(6):
            anew = renamed(web, tuple((hand + many) % 6 for hand in range(6)))
            told, f, g = self.check(web, anew)
            self.assertEqual((f[0], g[0]), (0, beneath(anew)[1].index(beneath(web)[1][0])))
            self.assertEqual(g[0], many % 3)

    def test_two_webs_over_one(self):
        on = (1, 0)
        for one_moves, other_moves in itertools.product(
            ({(0, 0): on}, {(0, 1): on}, {(0, 0): on, (0, 1): on}, {(0, 0): (1, 2, 0)}, {(0, 1): (2, 0, 1)}),
            repeat=2,
        ):
            one = lifted(CROSSED, len(list(one_moves.values())[0]), one_moves)[0]
            other = lifted(CROSSED, len(list(other_moves.values())[0]), other_moves)[0]
            web, f, g = self.check(one, other)
            self.assertLessEqual(len(web), len(one) * len(other))

    def test_covers_of_one_web_by_two_and_three_sheets(self):
        there = [(web, lesser) for web, lesser, row in covers() if len(web) <= 3 * len(lesser)]
        met = 0
        for (one, lesser), (other, other_lesser) in itertools.product(there, repeat=2):
            if lesser == other_lesser:
                met += 1
                self.check(one, other)
        self.assertGreater(met, len(there))

    def test_a_web_and_its_least_one(self):
        for web in SMALL + small_webs() + [ring(8), alike_row(8)]:
            least, leading = beneath(web)
            self.assertEqual(self.check(web, least), (web, tuple(range(len(web))), leading))
            told, f, g = self.check(least, web)
            self.assertEqual(f, followed(g, leading))
            self.assertEqual(len(told), len(web))

    def test_either_way_about(self):
        for web, lesser, row in covers():
            for one, other in ((web, lesser), (lesser, web), (web, renamed(web, tuple(range(len(web)))[::-1]))):
                self.check(one, other)
                self.check(other, one)

    def test_none(self):
        for one, other in (
            (ALONE, SELF_TIED), (ring(4), alike_row(4)), (MIXED, SEVERAL), (ring(4), changed(ring(4), 0, mark=1)),
            (CROSSED, exchanged(CROSSED, 0, 0, 1)), (MIXED, exchanged(MIXED, 2, 0, 1)),
            (changed(ring(3), 0, mark=1), changed(ring(3), 0, mark=2)),
        ):
            self.assertIs(together(one, other), None)
            self.assertIs(together(other, one), None)

    def test_just_where_the_least_webs_are_the_same(self):
        webs = SMALL[:6] + small_webs()[::3] + [renamed(web, (1, 0)) for web in small_webs() if len(web) == 2]
        for one, other in itertools.product(webs, repeat=2):
            if beneath(one)[0] == beneath(other)[0]:
                self.check(one, other)
            else:
                self.assertIs(together(one, other), None)

    def test_webs_under_a_third_are_told_one(self):
        for web in [ring(6), alike_row(6), marked(ring(6), (0, 3), 2)]:
            for (one, f), (other, g) in itertools.product(lesser_webs(web), repeat=2):
                self.check(one, other)

    def test_webs_called_anew(self):
        web = marked(ring(4), (0, 2), 1)
        for row, other_row in itertools.product(renamings(4), repeat=2):
            self.check(renamed(web, row), renamed(web, other_row))


class HandedOn(unittest.TestCase):
    def test_a_web_of_many_hands_is_handed_to_the_others(self):
        on, turn = tuple((sheet + 1) % 8 for sheet in range(8)), (1, 2, 3, 0, 5, 6, 7, 4)
        one = lifted(CROSSED, 8, {(0, 0): on, (0, 1): (1, 0, 2, 3, 4, 5, 6, 7)})[0]
        other = lifted(CROSSED, 8, {(0, 0): turn, (0, 1): on})[0]
        web, f, g = together(one, other)
        self.assertGreater(len(web), 50)
        self.assertEqual(read_web(show_web(web)), web)
        self.assertEqual(beneath(web), (CROSSED, (0,) * len(web)))
        self.assertIs(is_own(web), False)
        self.assertIn(f, leadings(web, one))
        anew = renamed(web, tuple(range(len(web)))[::-1])
        self.assertEqual(renamed(web, same(web, anew)), anew)
        self.assertIs(parted(web, 0, one, 5), None)
        self.assertEqual(by_parting(web, (0,) * len(web)), CROSSED)
        self.assertEqual(numbers_at(web, 20), (0,) * len(web))
        self.assertEqual(numbers_of_two(web, one, 20), ((0,) * len(web), (0,) * 8))
        self.assertEqual(stays_from(web), 0)
        self.assertEqual(story(web, 9, 3), story(CROSSED, 0, 3))
        self.assertEqual(together(web, one)[1], tuple(range(len(web))))
        marks = marked(web, (0,), 1)
        self.assertIs(look(exchanged(marks, 3, 0, 1)), True)
        self.assertEqual(len(parted(marks, 1, web, 1)), numbers_apart(marks, web))


def numbers_apart(one, other):
    """The first turn at which hands 1 of both have unlike numbers."""
    for turn in itertools.count():
        mine, theirs = numbers_of_two(one, other, turn)
        if mine[1] != theirs[1]:
            return turn


if __name__ == "__main__":
    unittest.main()
