"""Stories: point 12."""

import itertools
import unittest

from namelesshall.leadings import leadings
from namelesshall.numbers import numbers_of_two
from namelesshall.stories import story
from samples import ALONE, MIXED, OWN_TIE, SELF_TIED, SMALL
from samples import alike_row, changed, covers, eight_handed, is_plain, ring, small_webs

TURNS = (0, 1, 2, 3)


def by_words(web, hand, turn):
    """What point 12 says of stories, word by word."""
    mark, pegs = web[hand]
    if turn == 0:
        return (mark, len(pegs))
    return (mark, tuple((peg, by_words(web, near, turn - 1)) for near, peg in pegs))


class Stories(unittest.TestCase):
    def test_a_hand_without_pegs(self):
        self.assertEqual(story(((6, ()),), 0, 0), (6, 0))
        for turn in (1, 2, 3):
            self.assertEqual(story(((6, ()),), 0, turn), (6, ()))

    def test_a_peg_tied_to_itself(self):
        self.assertEqual(story(SELF_TIED, 0, 0), (3, 1))
        self.assertEqual(story(SELF_TIED, 0, 1), (3, ((0, (3, 1)),)))
        self.assertEqual(story(SELF_TIED, 0, 2), (3, ((0, (3, ((0, (3, 1)),))),)))
        self.assertEqual(story(SELF_TIED, 0, 3), (3, ((0, (3, ((0, (3, ((0, (3, 1)),))),))),)))

    def test_rings(self):
        one = (0, ((1, (0, 2)), (0, (0, 2))))
        two = (0, ((1, one), (0, one)))
        for many in range(1, 9):
            for hand in range(many):
                self.assertEqual(story(ring(many), hand, 0), (0, 2))
                self.assertEqual(story(ring(many), hand, 1), one)
                self.assertEqual(story(ring(many), hand, 2), two)
                self.assertEqual(story(ring(many), hand, 3), (0, ((1, two), (0, two))))
        self.assertEqual(story(OWN_TIE, 0, 2), two)

    def test_marks_near_and_far(self):
        web = changed(ring(5), 2, mark=7)
        self.assertEqual(story(web, 1, 1), (0, ((1, (7, 2)), (0, (0, 2)))))
        self.assertEqual(story(web, 3, 1), (0, ((1, (0, 2)), (0, (7, 2)))))
        self.assertEqual(story(web, 2, 1), (7, ((1, (0, 2)), (0, (0, 2)))))
        self.assertEqual(story(web, 0, 2), (0, (
            (1, (0, ((1, (7, 2)), (0, (0, 2))))),
            (0, (0, ((1, (0, 2)), (0, (0, 2))))),
        )))

    def test_unlike_numbers_of_pegs(self):
        self.assertEqual(story(MIXED, 1, 1), (0, ((0, (9, 4)),)))
        self.assertEqual(story(MIXED, 0, 1), (9, ((0, (0, 1)), (1, (5, 4)), (2, (9, 4)), (0, (5, 4)))))

    def test_each_hand_of_many_webs(self):
        for web in SMALL + small_webs() + eight_handed():
            for hand, turn in itertools.product(range(len(web)), TURNS):
                told = story(web, hand, turn)
                self.assertEqual(told, by_words(web, hand, turn))
                self.assertTrue(is_plain(told))


class AsNumbers(unittest.TestCase):
    def check(self, one, other):
        for turn in TURNS:
            numbers = numbers_of_two(one, other, turn)
            for hand, place in itertools.product(range(len(one)), range(len(other))):
                alike = story(one, hand, turn) == story(other, place, turn)
                self.assertEqual(alike, numbers[0][hand] == numbers[1][place], (one, hand, other, place, turn))

    def test_of_two_webs(self):
        webs = [ALONE, MIXED, SELF_TIED, OWN_TIE] + small_webs()[::6]
        for one, other in itertools.product(webs, repeat=2):
            self.check(one, other)

    def test_of_rows_and_rings_of_eight_hands(self):
        for one, other in itertools.product(eight_handed(), repeat=2):
            self.check(one, other)

    def test_of_a_web_and_one_over_it(self):
        for web, lesser, row in covers():
            self.check(web, lesser)
            for told in leadings(web, lesser):
                for hand, turn in itertools.product(range(len(web)), TURNS):
                    self.assertEqual(story(web, hand, turn), story(lesser, told[hand], turn))

    def test_a_row_that_parts_at_turn_3(self):
        web = changed(alike_row(8), 0, mark=1)
        self.assertEqual(story(web, 3, 2), story(web, 4, 2))
        self.assertNotEqual(story(web, 3, 3), story(web, 4, 3))


if __name__ == "__main__":
    unittest.main()
