"""Webs by partings and all lesser webs: points 17 and 18."""

import itertools
import unittest

from namelesshall.beneath import beneath, same
from namelesshall.changed import marked, renamed
from namelesshall.leadings import is_leading, leadings
from namelesshall.lesser import by_parting, lesser_webs
from namelesshall.webs import look
from samples import ALONE, CROSSED, MIXED, OWN_TIE, SELF_TIED, SEVERAL, SMALL
from samples import alike_row, changed, covers, is_plain, late_row, line, renamings, ring, small_webs, star

WEBS = [web for web in SMALL if len(web) <= 6] + small_webs() + [ring(6), alike_row(5), alike_row(6)] + [
    web for web, lesser, row in covers() if len(web) <= 6
]


def numbered(row):
    """The parting by numbers that puts together the hands that this row does."""
    first = []
    for number in row:
        if number not in first:
            first.append(number)
    return tuple(first.index(number) for number in row)


def all_partings(many):
    """All partings by numbers of so many hands, as Python sorts them."""
    return [row for row in itertools.product(range(many), repeat=many) if row == numbered(row)]


def is_even(web, parting):
    """Whether hands of one number have the same mark, and pegs that lead alike by numbers."""
    for one, other in itertools.combinations(range(len(web)), 2):
        if parting[one] == parting[other]:
            ends = [[(parting[near], place) for near, place in web[hand][1]] for hand in (one, other)]
            if web[one][0] != web[other][0] or ends[0] != ends[1]:
                return False
    return True


class ByParting(unittest.TestCase):
    def test_into_single_hands(self):
        for web in WEBS + [ring(8), line(8), late_row(8)]:
            self.assertEqual(by_parting(web, tuple(range(len(web)))), web)

    def test_rings(self):
        self.assertEqual(by_parting(ring(6), (0,) * 6), OWN_TIE)
        self.assertEqual(by_parting(ring(6), (0, 1, 0, 1, 0, 1)), ring(2))
        self.assertEqual(by_parting(ring(6), (0, 1, 2, 0, 1, 2)), ring(3))
        self.assertEqual(by_parting(ring(8), (0, 1, 2, 3, 0, 1, 2, 3)), ring(4))

    def test_numbers_come_in_the_order_of_the_hands(self):
        web = renamed(ring(6), (0, 5, 3, 1, 4, 2))
        # Around the ring stand hands 0, 5, 3, 1, 4, 2.
        self.assertEqual(by_parting(web, (0, 0, 1, 1, 2, 2)), (
            (0, ((2, 1), (1, 0))), (0, ((0, 1), (2, 0))), (0, ((1, 1), (0, 0))),
        ))

    def test_marks_and_ties_are_those_of_the_hands(self):
        web = marked(alike_row(4), (0, 3), 6)
        self.assertEqual(by_parting(web, (0, 1, 1, 0)), ((6, ((1, 0), (0, 1))), (0, ((0, 0), (1, 1)))))

    def test_of_the_leading_to_the_least_web_numbered_so(self):
        for web in WEBS + [ring(8), marked(ring(8), (0, 4), 2), star(4)]:
            least, leading = beneath(web)
            parting = numbered(leading)
            lesser = by_parting(web, parting)
            self.assertTrue(is_leading(web, lesser, parting))
            self.assertEqual(len(lesser), len(least))
            row = tuple(leading[parting.index(number)] for number in range(len(least)))
            self.assertEqual(renamed(lesser, row), least)

    def test_of_all_even_partings(self):
        for web in WEBS:
            for parting in all_partings(len(web)):
                if is_even(web, parting):
                    self.check(web, parting)

    def check(self, web, parting):
        lesser = by_parting(web, parting)
        self.assertIs(look(lesser), True)
        self.assertTrue(is_plain(lesser))
        self.assertEqual(len(lesser), len(set(parting)))
        for hand, number in enumerate(parting):
            mark, pegs = web[hand]
            self.assertEqual(lesser[number], (mark, tuple((parting[near], place) for near, place in pegs)))


class All(unittest.TestCase):
    def test_a_ring_of_four(self):
        self.assertEqual(lesser_webs(ring(4)), [
            (OWN_TIE, (0, 0, 0, 0)), (ring(2), (0, 1, 0, 1)), (ring(4), (0, 1, 2, 3)),
        ])

    def test_a_ring_of_six(self):
        self.assertEqual(lesser_webs(ring(6)), [
            (OWN_TIE, (0,) * 6), (ring(2), (0, 1, 0, 1, 0, 1)), (ring(3), (0, 1, 2, 0, 1, 2)),
            (ring(6), (0, 1, 2, 3, 4, 5)),
        ])

    def test_several_of_as_many_hands_by_partings(self):
        four = (
            (0, ((1, 0), (2, 1), (3, 2))), (0, ((0, 0), (3, 1), (2, 2))),
            (0, ((3, 0), (0, 1), (1, 2))), (0, ((2, 0), (1, 1), (0, 2))),
        )
        told = lesser_webs(four)
        self.assertEqual([parting for web, parting in told],
                         [(0, 0, 0, 0), (0, 0, 1, 1), (0, 1, 0, 1), (0, 1, 1, 0), (0, 1, 2, 3)])
        self.assertEqual([len(web) for web, parting in told], [1, 2, 2, 2, 4])

    def test_fewer_hands_go_ahead_of_a_lesser_parting(self):
        told = [parting for web, parting in lesser_webs(alike_row(6))]
        self.assertEqual(told, [(0, 0, 0, 0, 0, 0), (0, 1, 1, 0, 0, 1), (0, 1, 2, 2, 1, 0), (0, 1, 2, 3, 4, 5)])
        for web in WEBS:
            keys = [(len(lesser), parting) for lesser, parting in lesser_webs(web)]
            self.assertEqual(keys, sorted(set(keys)))
        # As Python sorts tuples alone, a parting of three hands would go ahead of one of two.
        web = self.sixfold()
        told = [parting for lesser, parting in lesser_webs(web)]
        self.assertNotEqual(told, sorted(told))

    def sixfold(self):
        """Six hands of two pegs, led into one another by all six ways to order three things."""
        ways = list(itertools.permutations(range(3)))
        hands = []
        for way in ways:
            left = ways.index((way[1], way[0], way[2]))
            right = ways.index((way[0], way[2], way[1]))
            hands.append((0, ((left, 0), (right, 1))))
        return tuple(hands)

    def test_a_web_that_is_its_own_least(self):
        for web in (ALONE, SELF_TIED, OWN_TIE, CROSSED, MIXED, SEVERAL, star(4), line(6), late_row(6),
                    changed(ring(6), 2, mark=1)):
            self.assertEqual(lesser_webs(web), [(web, tuple(range(len(web))))])

    def test_the_last_and_the_first(self):
        for web in WEBS:
            told = lesser_webs(web)
            self.assertIs(type(told), list)
            self.assertEqual(told[-1], (web, tuple(range(len(web)))))
            self.assertEqual(len(told[0][0]), len(beneath(web)[0]))
            self.assertIsNotNone(same(told[0][0], beneath(web)[0]))

    def test_each_parting_is_a_leading_to_its_web(self):
        for web in WEBS:
            for pair in lesser_webs(web):
                self.assertIs(type(pair), tuple)
                lesser, parting = pair
                self.assertIs(look(lesser), True)
                self.assertEqual(parting, numbered(parting))
                self.assertTrue(is_leading(web, lesser, parting))
                self.assertIn(parting, leadings(web, lesser))
                self.assertEqual(lesser, by_parting(web, parting))

    def test_found_again_by_going_through_all_partings(self):
        for web in WEBS + [self.sixfold()]:
            even = [parting for parting in all_partings(len(web)) if is_even(web, parting)]
            told = [parting for lesser, parting in lesser_webs(web)]
            self.assertEqual(told, sorted(even, key=lambda parting: (max(parting), parting)))

    def test_called_anew_there_are_as_many(self):
        for web in [ring(6), alike_row(6), self.sixfold(), marked(ring(6), (1, 4), 3)]:
            for row in renamings(6):
                sizes = [len(lesser) for lesser, parting in lesser_webs(renamed(web, row))]
                self.assertEqual(sizes, [len(lesser) for lesser, parting in lesser_webs(web)])

    def test_the_list_is_the_askers_own(self):
        for web in (ring(6), MIXED):
            first = lesser_webs(web)
            kept = list(first)
            first.clear()
            self.assertEqual(lesser_webs(web), kept)
            self.assertIsNot(lesser_webs(web), lesser_webs(web))


if __name__ == "__main__":
    unittest.main()
