"""Numbers at turns and from when on they stay: points 10 and 11."""

import itertools
import unittest

from namelesshall.changed import marked, renamed
from namelesshall.leadings import followed
from namelesshall.numbers import numbers_at, numbers_of_two, stays_from
from samples import ALONE, CROSSED, MIXED, OWN_TIE, SELF_TIED, SEVERAL, SMALL
from samples import alike_row, changed, covers, eight_handed, late_row, line, renamings, ring
from samples import small_webs, star

WEBS = SMALL + small_webs() + eight_handed()
TURNS = range(21)


def placed(keys):
    """For each key how many unlike ones are below it."""
    return tuple(len({other for other in keys if other < key}) for key in keys)


def by_words(web, turn):
    """What point 10 says of numbers, word by word."""
    keys = [(mark, len(pegs)) for mark, pegs in web]
    for again in range(turn):
        numbers = placed(keys)
        keys = [(numbers[hand], tuple((peg, numbers[near]) for near, peg in pegs))
                for hand, (mark, pegs) in enumerate(web)]
    return placed(keys)


def of_both_by_words(one, other, turn):
    """The same of all hands of two webs together."""
    behind = tuple((mark, tuple((near + len(one), peg) for near, peg in pegs)) for mark, pegs in other)
    numbers = by_words(one + behind, turn)
    return numbers[:len(one)], numbers[len(one):]


class OfOne(unittest.TestCase):
    def test_turn_0_by_marks_and_then_by_pegs(self):
        self.assertEqual(numbers_at(MIXED, 0), (2, 0, 1))
        self.assertEqual(numbers_at(star(4), 0), (1, 0, 0, 0, 0))
        # Marks alike: the number of pegs tells.
        alike = marked(line(4), (0, 1, 2, 3), 6)
        self.assertEqual(numbers_at(alike, 0), (0, 1, 1, 0))
        # Marks unlike: the mark goes ahead of the number of pegs.
        self.assertEqual(numbers_at(marked(alike, (1,), 2), 0), (1, 0, 2, 1))
        self.assertEqual(numbers_at(marked(alike, (0, 3), 9), 0), (1, 0, 0, 1))

    def test_unlike_ones_alone_are_counted(self):
        self.assertEqual(numbers_at(marked(ring(5), (1, 3), 9), 0), (0, 1, 0, 1, 0))
        self.assertEqual(numbers_at(changed(marked(ring(5), (1, 3), 9), 2, mark=4), 0), (0, 2, 1, 2, 0))

    def test_one_hand_without_pegs(self):
        for turn in TURNS:
            self.assertEqual(numbers_at(ALONE, turn), (0,))
            self.assertEqual(numbers_at(((7, ()),), turn), (0,))

    def test_all_alike(self):
        for turn in TURNS:
            for many in range(1, 9):
                self.assertEqual(numbers_at(ring(many), turn), (0,) * many)
            for web in (SELF_TIED, OWN_TIE, CROSSED, alike_row(8)):
                self.assertEqual(numbers_at(web, turn), (0,) * len(web))

    def test_a_ring_alike_but_for_one_mark(self):
        web = changed(ring(8), 0, mark=1)
        told = [(1, 0, 0, 0, 0, 0, 0, 0), (3, 1, 0, 0, 0, 0, 0, 2), (5, 3, 1, 0, 0, 0, 2, 4)]
        for turn in TURNS:
            last = (7, 5, 3, 1, 0, 2, 4, 6)
            self.assertEqual(numbers_at(web, turn), told[turn] if turn < 3 else last)

    def test_a_row_alike_but_for_one_mark(self):
        web = changed(alike_row(8), 0, mark=1)
        for turn in TURNS:
            parted = min(turn + 1, 7)
            self.assertEqual(numbers_at(web, turn), tuple(max(0, parted - hand) for hand in range(8)))

    def test_what_is_heard_at_a_peg_goes_by_the_peg_first(self):
        # At hand 1 peg 0 hears peg 0; at hand 0 it hears peg 1 of a hand with the lesser number.
        web = ((5, ((2, 1),)), (5, ((3, 0),)), (0, ((3, 1), (0, 0))), (9, ((1, 0), (2, 0))))
        self.assertEqual(numbers_at(web, 0), (1, 1, 0, 2))
        self.assertEqual(numbers_at(web, 1), (2, 1, 0, 3))

    def test_what_is_heard_goes_by_numbers_where_pegs_are_alike(self):
        web = ((5, ((2, 0),)), (5, ((3, 0),)), (9, ((0, 0), (3, 1))), (0, ((1, 0), (2, 1))))
        self.assertEqual(numbers_at(web, 0), (1, 1, 2, 0))
        self.assertEqual(numbers_at(web, 1), (2, 1, 3, 0))

    def test_a_later_turn_keeps_the_order_of_the_one_ahead(self):
        for web in WEBS:
            for turn in range(4):
                now, later = numbers_at(web, turn), numbers_at(web, turn + 1)
                for one, other in itertools.product(range(len(web)), repeat=2):
                    if now[one] < now[other]:
                        self.assertLess(later[one], later[other])

    def test_each_turn_of_many_webs(self):
        for web in WEBS:
            for turn in list(range(9)) + [20]:
                told = numbers_at(web, turn)
                self.assertIs(type(told), tuple)
                self.assertTrue(all(type(number) is int for number in told))
                self.assertEqual(told, by_words(web, turn), (web, turn))

    def test_called_anew_the_numbers_go_along(self):
        for web in WEBS:
            for row in renamings(len(web))[:5]:
                for turn in (0, 1, 2, 7):
                    self.assertEqual(followed(row, numbers_at(renamed(web, row), turn)), numbers_at(web, turn))


class OfTwo(unittest.TestCase):
    def test_unlike_those_of_each_alone(self):
        other = ((3, ()),)
        self.assertEqual(numbers_of_two(((5, ()),), other, 0), ((1,), (0,)))
        self.assertEqual(numbers_of_two(other, ((5, ()),), 4), ((0,), (1,)))
        self.assertEqual(numbers_of_two(MIXED, ring(2), 0), ((3, 0, 2), (1, 1)))
        self.assertEqual(numbers_of_two(ring(2), MIXED, 0), ((1, 1), (3, 0, 2)))
        web, unmarked = changed(alike_row(3), 0, mark=1), alike_row(2)
        self.assertEqual(numbers_of_two(web, unmarked, 0), ((1, 0, 0), (0, 0)))
        self.assertEqual(numbers_of_two(web, unmarked, 1), ((2, 1, 0), (0, 0)))
        # Alone the last of three would keep 0; together it is parted from the two.
        self.assertEqual(numbers_of_two(web, unmarked, 2), ((3, 2, 1), (0, 0)))

    def test_a_web_and_itself(self):
        for web in WEBS:
            for turn in (0, 1, 2, 3, 8, 20):
                alone = numbers_at(web, turn)
                self.assertEqual(numbers_of_two(web, web, turn), (alone, alone))

    def test_a_web_and_one_over_it(self):
        for web, lesser, row in covers():
            for turn in (0, 1, 2, 5, 20):
                above, beneath = numbers_of_two(web, lesser, turn)
                self.assertEqual(above, followed(row, beneath))
                self.assertEqual(beneath, numbers_at(lesser, turn))

    def test_nothing_alike(self):
        for turn in TURNS:
            one, other = numbers_of_two(changed(line(3), 0, mark=8), star(3), turn)
            self.assertEqual(set(one) & set(other), set())
            self.assertEqual(sorted(set(one + other)), list(range(len(set(one + other)))))

    def test_pairs_of_many_webs(self):
        webs = SMALL[:6] + small_webs()[::6] + eight_handed()[::2]
        for one, other in itertools.product(webs, repeat=2):
            for turn in (0, 1, 2, 5, 16):
                told = numbers_of_two(one, other, turn)
                self.assertIs(type(told), tuple)
                self.assertEqual((len(told[0]), len(told[1])), (len(one), len(other)))
                self.assertEqual(told, of_both_by_words(one, other, turn))
                self.assertEqual(numbers_of_two(other, one, turn), told[::-1])


class Staying(unittest.TestCase):
    def test_where_turn_0_parts_all(self):
        for web in (ALONE, SELF_TIED, MIXED, SEVERAL, line(8)):
            self.assertEqual(stays_from(web), 0)

    def test_where_nothing_is_parted_further(self):
        self.assertEqual(stays_from(marked(ring(8), (0, 2, 4, 6), 1)), 0)
        self.assertEqual(stays_from(marked(ring(6), (0, 1, 2, 3, 4, 5), 4)), 0)
        for many in range(1, 9):
            self.assertEqual(stays_from(ring(many)), 0)
        self.assertEqual(stays_from(alike_row(8)), 0)

    def test_one(self):
        self.assertEqual(stays_from(star(4)), 1)
        self.assertEqual(stays_from(changed(ring(3), 1, mark=1)), 1)

    def test_a_row_alike_but_for_one_mark(self):
        for many in range(2, 9):
            self.assertEqual(stays_from(changed(alike_row(many), 0, mark=1)), many - 2)
            self.assertEqual(stays_from(changed(alike_row(many), many - 1, mark=1)), many - 2)

    def test_the_greatest_that_there_is(self):
        for many in range(2, 9):
            self.assertEqual(stays_from(late_row(many)), many - 1)

    def test_first_turn_from_which_on_they_stay(self):
        for web in WEBS:
            turn = stays_from(web)
            self.assertIs(type(turn), int)
            self.assertLess(turn, len(web))
            told = [by_words(web, later) for later in range(12)]
            self.assertEqual(set(told[turn:]), {told[turn]})
            if turn > 0:
                self.assertNotEqual(told[turn - 1], told[turn])


if __name__ == "__main__":
    unittest.main()
