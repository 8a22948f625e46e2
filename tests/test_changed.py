"""Webs called anew, marked and exchanged: point 9."""

import itertools
import unittest

from namelesshall.changed import exchanged, marked, renamed
from namelesshall.webs import look
from samples import ALONE, CROSSED, MIXED, OWN_TIE, SEVERAL, SMALL
from samples import is_plain, line, renamings, ring, small_webs, star

WEBS = SMALL + small_webs()


class Anew(unittest.TestCase):
    def test_by_hand(self):
        web = ((0, ((1, 0),)), (5, ((0, 0), (2, 0))), (7, ((1, 1),)))
        self.assertEqual(renamed(web, (1, 2, 0)), ((7, ((2, 1),)), (0, ((2, 0),)), (5, ((1, 0), (0, 0)))))
        self.assertEqual(renamed(web, (2, 0, 1)), ((5, ((2, 0), (1, 0))), (7, ((0, 1),)), (0, ((0, 0),))))
        self.assertEqual(renamed(ALONE, (0,)), ALONE)

    def test_the_hand_of_the_new_number_is_the_old_one_and_ties_follow(self):
        for web in WEBS:
            for row in renamings(len(web)):
                new = renamed(web, row)
                self.assertIs(look(new), True)
                self.assertTrue(is_plain(new))
                self.assertEqual(len(new), len(web))
                for hand, (mark, pegs) in enumerate(web):
                    new_mark, new_pegs = new[row[hand]]
                    self.assertEqual(new_mark, mark)
                    self.assertEqual(len(new_pegs), len(pegs))
                    for peg, (near, place) in enumerate(pegs):
                        self.assertEqual(new_pegs[peg], (row[near], place))

    def test_the_other_way_about_it_is_the_web_again(self):
        for web in WEBS:
            for row in renamings(len(web)):
                back = tuple(row.index(hand) for hand in range(len(web)))
                self.assertEqual(renamed(renamed(web, row), back), web)

    def test_by_each_hands_own_number_it_is_the_web(self):
        for web in WEBS:
            self.assertEqual(renamed(web, tuple(range(len(web)))), web)


class Marked(unittest.TestCase):
    def test_none(self):
        for web in WEBS:
            self.assertEqual(marked(web, (), 4), web)

    def test_some_and_all(self):
        for web in WEBS:
            for many in range(1, min(len(web), 4) + 1):
                for hands in itertools.combinations(range(len(web)), many):
                    for mark in (0, 5, 9):
                        self.check(web, hands, mark)
            self.check(web, tuple(range(len(web))), 1)

    def check(self, web, hands, mark):
        new = marked(web, hands, mark)
        self.assertIs(look(new), True)
        self.assertTrue(is_plain(new))
        for hand, (old_mark, pegs) in enumerate(web):
            self.assertEqual(new[hand], (mark if hand in hands else old_mark, pegs))

    def test_every_mark(self):
        for mark in range(10):
            self.assertEqual(marked(MIXED, (0, 2), mark), ((mark, MIXED[0][1]), MIXED[1], (mark, MIXED[2][1])))


class Exchanged(unittest.TestCase):
    def test_ties_to_other_hands(self):
        web = ((9, ((1, 0), (2, 0))), (0, ((0, 0),)), (5, ((0, 1),)))
        there = ((9, ((2, 0), (1, 0))), (0, ((0, 1),)), (5, ((0, 0),)))
        self.assertEqual(exchanged(web, 0, 0, 1), there)
        self.assertEqual(exchanged(web, 0, 1, 0), there)

    def test_both_pegs_tied_to_one_hand(self):
        web = ((0, ((1, 0), (1, 1))), (1, ((0, 0), (0, 1))))
        there = ((0, ((1, 1), (1, 0))), (1, ((0, 1), (0, 0))))
        self.assertEqual(exchanged(web, 0, 0, 1), there)
        self.assertEqual(exchanged(web, 1, 0, 1), there)

    def test_pegs_of_a_later_hand(self):
        self.assertEqual(exchanged(MIXED, 2, 0, 2), (
            (9, ((1, 0), (2, 1), (0, 2), (2, 2))),
            (0, ((0, 0),)),
            (5, ((2, 3), (0, 1), (0, 3), (2, 0))),
        ))

    def test_a_tie_between_both_stays_one(self):
        self.assertEqual(exchanged(OWN_TIE, 0, 0, 1), OWN_TIE)
        self.assertEqual(exchanged(OWN_TIE, 0, 1, 0), OWN_TIE)
        self.assertEqual(exchanged(CROSSED, 0, 1, 3), CROSSED)

    def test_ties_within_the_hand_to_its_other_pegs(self):
        self.assertEqual(exchanged(CROSSED, 0, 0, 1), ((0, ((0, 3), (0, 2), (0, 1), (0, 0))),))
        self.assertEqual(exchanged(CROSSED, 0, 1, 2), ((0, ((0, 1), (0, 0), (0, 3), (0, 2))),))

    def test_a_peg_tied_to_itself(self):
        web = ((3, ((0, 0), (1, 0))), (0, ((0, 1),)))
        there = ((3, ((1, 0), (0, 1))), (0, ((0, 0),)))
        self.assertEqual(exchanged(web, 0, 0, 1), there)
        self.assertEqual(exchanged(web, 0, 1, 0), there)
        self.assertEqual(exchanged(there, 0, 0, 1), web)
        self.assertEqual(exchanged(((0, ((0, 0), (0, 1))),), 0, 0, 1), ((0, ((0, 0), (0, 1))),))
        self.assertEqual(exchanged(MIXED, 0, 2, 3)[0], (9, ((1, 0), (2, 1), (2, 0), (0, 3))))

    def test_all_of_many_webs(self):
        for web in WEBS + [star(4), line(8), ring(8)]:
            for hand, (mark, pegs) in enumerate(web):
                for p, q in itertools.permutations(range(len(pegs)), 2):
                    self.check(web, hand, p, q)

    def check(self, web, hand, p, q):
        new = exchanged(web, hand, p, q)
        self.assertIs(look(new), True)
        self.assertTrue(is_plain(new))
        self.assertEqual([mark for mark, pegs in new], [mark for mark, pegs in web])
        self.assertEqual(exchanged(new, hand, p, q), web)
        self.assertEqual(exchanged(web, hand, q, p), new)
        moved = {(hand, p): (hand, q), (hand, q): (hand, p)}
        for at, (mark, pegs) in enumerate(web):
            for peg, end in enumerate(pegs):
                new_at, new_peg = moved.get((at, peg), (at, peg))
                self.assertEqual(new[new_at][1][new_peg], moved.get(end, end), (web, hand, p, q))

    def test_several_one_after_the_other(self):
        web = exchanged(exchanged(SEVERAL, 0, 0, 1), 1, 0, 1)
        self.assertEqual(web, ((0, ((1, 1), (1, 0), (1, 2))), (1, ((0, 1), (0, 0), (0, 2)))))
        self.assertEqual(exchanged(SEVERAL, 1, 1, 2), ((0, ((1, 2), (1, 0), (1, 1))), (1, ((0, 1), (0, 2), (0, 0)))))


if __name__ == "__main__":
    unittest.main()
