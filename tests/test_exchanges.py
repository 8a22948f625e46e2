"""The fewest exchanges, and that no fewer do: points 36 and 37."""

import itertools
import unittest

from drawn import drawn_webs
from namelesshall.beneath import beneath, is_own
from namelesshall.changed import exchanged, marked, renamed
from namelesshall.exchanges import fewest, none_fewer
from namelesshall.leadings import is_leading
from namelesshall.lesser import lesser_webs
from samples import (ALONE, OWN_TIE, SELF_TIED, SEVERAL, alike_row, covers, is_told, late_row, line, renamings, ring,
                     small_webs, star)

STRAIGHT = ((0, ((1, 0), (1, 1), (1, 2))), (0, ((0, 0), (0, 1), (0, 2))))
TWO_TIES = ((0, ((1, 0), (1, 1))), (0, ((0, 0), (0, 1))))
MIRRORED = ((0, ((1, 0),)), (0, ((0, 0), (2, 1))), (0, ((3, 0), (1, 1))), (0, ((2, 0),)))
ONE_TIE = ((0, ((1, 0),)), (0, ((0, 0),)))


def swapped(web, hand, p, q):
    """The web with two pegs of a hand exchanged, by the words of point 9: each peg has a new place, ties stay."""
    new = {(at, peg): (at, peg) for at, (mark, pegs) in enumerate(web) for peg in range(len(pegs))}
    new[(hand, p)], new[(hand, q)] = (hand, q), (hand, p)
    ties = {new[(at, peg)]: new[end] for at, (mark, pegs) in enumerate(web) for peg, end in enumerate(pegs)}
    return tuple((mark, tuple(ties[(at, peg)] for peg in range(len(pegs)))) for at, (mark, pegs) in enumerate(web))


def all_rows(web, many):
    """All tuples of so many exchanges, as Python sorts them."""
    single = [(hand, p, q) for hand, (mark, pegs) in enumerate(web)
              for p, q in itertools.combinations(range(len(pegs)), 2)]
    return sorted(itertools.product(single, repeat=many))


def web_behind(web, row):
    """The web behind these exchanges."""
    for exchange in row:
        web = swapped(web, *exchange)
    return web


def found_again(web):
    """The fewest exchanges, found by going through all; a web is its own least where it has no lesser web."""
    for many in (0, 1, 2):
        for row in all_rows(web, many):
            if len(lesser_webs(web_behind(web, row))) == 1:
                return row
    return None


def webs_in_bounds():
    """Webs of at most five hands of at most three pegs, of all sorts."""
    webs = small_webs() + [ALONE, SELF_TIED, OWN_TIE, SEVERAL, STRAIGHT, TWO_TIES, ONE_TIE, MIRRORED]
    for many in range(2, 6):
        webs += [ring(many), alike_row(many), line(many), late_row(many), star(min(many, 3))]
    webs += [web for web, lesser, leading in covers() if len(web) <= 5]
    for hands in range(1, 6):
        webs += drawn_webs(360 + hands, hands, 30, most_pegs=3, marks=(0,))
        webs += drawn_webs(370 + hands, hands, 20, most_pegs=2, marks=(0, 0, 0, 4))
    return [web for web in webs if all(len(pegs) <= 3 for mark, pegs in web)]


WEBS = webs_in_bounds()


class Fewest(unittest.TestCase):
    def told(self, web, expected):
        told = fewest(web)
        self.assertEqual(told, expected, web)
        self.assertTrue(is_told(told))

    def test_none_for_a_web_that_is_its_own_least(self):
        for web in (ALONE, SELF_TIED, OWN_TIE, SEVERAL, line(5), late_row(5), star(3), marked(ring(5), (2,), 1)):
            self.assertTrue(is_own(web))
            self.told(web, ())

    def test_one_exchange(self):
        for many in (3, 4, 5):
            self.told(ring(many), ((0, 0, 1),))
            self.assertTrue(is_own(exchanged(ring(many), 0, 0, 1)))

    def test_one_exchange_by_later_pegs(self):
        # Pegs 0 and 1 are both tied to themselves: to exchange them changes nothing.
        web = ((0, ((0, 0), (0, 1), (1, 2))), (0, ((1, 0), (1, 1), (0, 2))))
        self.told(web, ((0, 0, 2),))
        # Pegs 1 and 2 are: peg 0 stands behind neither.
        web = ((0, ((1, 0), (0, 1), (0, 2))), (0, ((0, 0), (1, 1), (1, 2))))
        self.told(web, ((0, 0, 1),))

    def test_one_exchange_at_a_later_hand(self):
        # A row of four that reads the same from both ends, whose first hand has one peg.
        self.told(MIRRORED, ((1, 0, 1),))
        seen = {fewest(renamed(MIRRORED, row)) for row in renamings(4)}
        self.assertEqual(seen, {((hand, 0, 1),) for hand in (0, 1, 2)})

    def test_two_exchanges(self):
        self.told(STRAIGHT, ((0, 0, 1), (0, 0, 2)))
        for row in all_rows(STRAIGHT, 1):
            self.assertFalse(is_own(web_behind(STRAIGHT, row)))
        other = tuple((7, pegs) for mark, pegs in STRAIGHT)
        self.told(other, ((0, 0, 1), (0, 0, 2)))

    def test_none_where_two_are_not_enough(self):
        self.told(ONE_TIE, None)
        self.told(ring(2), None)
        self.told(TWO_TIES, None)
        self.told(exchanged(TWO_TIES, 0, 0, 1), None)
        self.told(tuple((3, pegs) for mark, pegs in ONE_TIE), None)

    def test_found_again_by_going_through_all(self):
        seen = set()
        for web in WEBS:
            expected = found_again(web)
            self.told(web, expected)
            seen.add(expected if expected is None else len(expected))
        self.assertEqual(seen, {0, 1, 2, None})

    def test_the_web_so_exchanged_is_its_own_least_and_none_with_fewer(self):
        for web in WEBS:
            told = fewest(web)
            if told is None:
                continue
            self.assertTrue(is_own(web_behind(web, told)))
            for hand, p, q in told:
                self.assertLess(p, q)
                self.assertLess(q, len(web[hand][1]))
            for few in range(len(told)):
                for row in all_rows(web, few):
                    self.assertFalse(is_own(web_behind(web, row)))


class NoneFewer(unittest.TestCase):
    def told(self, web, many, expected):
        told = none_fewer(web, many)
        self.assertEqual(told, expected, web)
        self.assertIs(type(told), list)
        self.assertTrue(is_told(told))

    def test_for_0(self):
        for web in WEBS[::10]:
            self.told(web, 0, [])

    def test_for_1(self):
        for web in WEBS:
            self.told(web, 1, [((),) + beneath(web)])

    def test_for_2(self):
        self.told(ring(2), 2, [
            ((), ((0, ((0, 1), (0, 0))),), (0, 0)),
            (((0, 0, 1),),) + beneath(exchanged(ring(2), 0, 0, 1)),
            (((1, 0, 1),),) + beneath(exchanged(ring(2), 1, 0, 1)),
        ])
        self.told(ONE_TIE, 2, [((), ((0, ((0, 0),)),), (0, 0))])

    def test_each_by_how_many_then_as_python_sorts_them(self):
        for web in WEBS[::4] + [STRAIGHT, late_row(5), ring(5), star(3), line(5)]:
            for many in (0, 1, 2, 3):
                rows = [row for few in range(many) for row in all_rows(web, few)]
                self.told(web, many, [(row,) + beneath(web_behind(web, row)) for row in rows])

    def test_how_many(self):
        # Five hands of three pegs have three exchanges each.
        self.assertEqual([len(none_fewer(late_row(5), many)) for many in (0, 1, 2, 3)], [0, 1, 16, 241])
        self.assertEqual([len(none_fewer(ring(4), many)) for many in (0, 1, 2, 3)], [0, 1, 5, 21])
        self.assertEqual([len(none_fewer(ALONE, many)) for many in (0, 1, 2, 3)], [0, 1, 1, 1])

    def test_it_shows_that_no_fewer_do(self):
        for web in WEBS[::2] + [STRAIGHT, TWO_TIES]:
            told = fewest(web)
            many = 3 if told is None else len(told)
            for row, least, leading in none_fewer(web, many):
                self.assertLess(len(least), len(web))
                self.assertTrue(is_leading(web_behind(web, row), least, leading))

    def test_the_list_is_the_askers_own(self):
        first = none_fewer(ring(3), 3)
        kept = list(first)
        first.clear()
        second = none_fewer(ring(3), 3)
        self.assertEqual(second, kept)
        second.append("spoilt")
        self.assertEqual(none_fewer(ring(3), 3), kept)


if __name__ == "__main__":
    unittest.main()
