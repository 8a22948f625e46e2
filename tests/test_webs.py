"""Webs looked at: points 4 and 5, and 2 as far as it speaks of these."""

import itertools
import unittest

from namelesshall.errors import NoWeb
from namelesshall.webs import look
from samples import ALONE, CROSSED, MIXED, OWN_TIE, SELF_TIED, SEVERAL, WEBS
from samples import changed, line, peg_changed, ring, star

PLACES = (0, 2, 4)
FAR = 10 ** 30


class Looking(unittest.TestCase):
    def refused(self, web, word, at):
        with self.assertRaises(NoWeb) as caught:
            look(web)
        self.assertEqual((caught.exception.word, caught.exception.at), (word, at))
        self.assertIs(type(caught.exception.at), int)


class LetBy(unittest.TestCase):
    def let_by(self, web):
        self.assertIs(look(web), True)

    def test_one_hand_without_pegs(self):
        self.let_by(ALONE)

    def test_a_peg_tied_to_itself(self):
        self.let_by(SELF_TIED)
        self.let_by(((0, ((0, 0), (0, 1), (0, 2), (0, 3))),))

    def test_a_tie_between_two_pegs_of_one_hand(self):
        self.let_by(OWN_TIE)
        self.let_by(CROSSED)

    def test_several_ties_between_two_hands(self):
        self.let_by(SEVERAL)

    def test_no_pegs_and_four(self):
        self.let_by(star(4))
        self.let_by(MIXED)

    def test_every_mark(self):
        for mark in range(10):
            self.let_by(((mark, ()),))
            self.let_by(changed(ring(5), 3, mark=mark))

    def test_ninety_nine_hands(self):
        self.let_by(ring(99))
        self.let_by(line(99))

    def test_all_samples(self):
        for web in WEBS:
            self.let_by(web)

    def test_more_hands_than_the_bound_are_no_fault(self):
        self.let_by(line(3000))

    def test_hands_reached_only_by_way_of_a_greater_one(self):
        self.let_by(((0, ((2, 0),)), (0, ((2, 1),)), (0, ((0, 0), (1, 0)))))


class Refused(Looking):
    def test_no_hands(self):
        self.refused((), "hands", 0)

    def test_mark(self):
        for at in PLACES:
            for mark in (-1, 10, 11, 99, -FAR, FAR):
                self.refused(changed(ring(5), at, mark=mark), "mark", at)

    def test_five_pegs(self):
        own = tuple((0, peg) for peg in range(5))
        self.refused(((0, own),), "pegs", 0)
        for at in PLACES:
            pegs = ring(5)[at][1] + ((at, 2), (at, 3), (at, 4))
            self.refused(changed(ring(5), at, pegs=pegs), "pegs", at)
            self.refused(changed(ring(5), at, pegs=pegs + ((at, 5),)), "pegs", at)

    def test_a_tie_to_a_hand_that_is_not_there(self):
        for at in PLACES:
            for hand in (5, 6, FAR):
                pegs = ring(5)[at][1] + ((hand, 0),)
                self.refused(changed(ring(5), at, pegs=pegs), "tie", at)

    def test_a_tie_to_a_peg_that_is_not_there(self):
        for at in PLACES:
            for peg in (3, 4, FAR):
                pegs = ring(5)[at][1] + ((at, peg),)
                self.refused(changed(ring(5), at, pegs=pegs), "tie", at)

    def test_a_tie_to_a_hand_below_nought(self):
        for at in PLACES:
            # Counted from the end this would be the hand itself.
            for hand in (at - 5, -6, -FAR):
                pegs = ring(5)[at][1] + ((hand, 2),)
                self.refused(changed(ring(5), at, pegs=pegs), "tie", at)

    def test_a_tie_to_a_peg_below_nought(self):
        for at in PLACES:
            # Counted from the end this would be the peg itself.
            for peg in (-1, -4, -FAR):
                pegs = ring(5)[at][1] + ((at, peg),)
                self.refused(changed(ring(5), at, pegs=pegs), "tie", at)

    def test_a_peg_that_does_not_lead_back(self):
        for at in PLACES:
            for peg in (0, 1):
                pegs = ring(5)[at][1] + ((at, peg),)
                self.refused(changed(ring(5), at, pegs=pegs), "tie", at)

    def test_a_peg_that_leads_back_to_another_peg(self):
        web = ((0, ((1, 0), (1, 1))), (0, ((0, 1), (0, 0))))
        self.refused(web, "tie", 0)
        self.refused(((0, ((0, 1), (0, 2), (0, 0))),), "tie", 0)

    def test_a_peg_that_leads_back_to_another_hand(self):
        web = ((0, ((1, 0),)), (0, ((2, 0),)), (0, ((1, 0),)))
        self.refused(web, "tie", 0)

    def test_a_fault_at_a_later_peg_of_a_hand(self):
        for web in (star(4), MIXED):
            for peg in range(4):
                self.refused(peg_changed(web, 0, peg, (0, 7)), "tie", 0)

    def test_apart(self):
        self.refused(((0, ()), (0, ())), "apart", 1)
        self.refused(ALONE + ((0, ((1, 0),)),), "apart", 1)
        self.refused(ring(4) + ((0, ()),), "apart", 4)
        pair = ((0, ((1, 0),)), (0, ((0, 0),)))
        self.refused(pair + ((0, ((3, 0),)), (0, ((2, 0),))), "apart", 2)

    def test_apart_in_the_middle(self):
        web = ((0, ((3, 0),)), (0, ((2, 0),)), (0, ((1, 0),)), (0, ((0, 0),)))
        self.refused(web, "apart", 1)
        self.refused(((0, ((2, 0),)), (0, ()), (0, ((0, 0),))), "apart", 1)

    def test_apart_behind_ninety_eight_hands(self):
        self.refused(line(98) + ((0, ()),), "apart", 98)


class FirstDue(Looking):
    FIVE = tuple((0, peg) for peg in range(5))

    def test_mark_ahead_of_pegs_ahead_of_tie(self):
        five_wrong = self.FIVE[:4] + ((9, 9),)
        self.refused(((10, five_wrong),), "mark", 0)
        self.refused(((10, ((9, 9),)),), "mark", 0)
        self.refused(((10, self.FIVE),), "mark", 0)
        self.refused(((0, five_wrong),), "pegs", 0)

    def test_a_lesser_hand_goes_ahead_whatever_the_words(self):
        wrong = {"mark": (-1, ()), "pegs": (0, ((9, 9),) * 5), "tie": (0, ((9, 9),))}
        for first, second in itertools.product(wrong, repeat=2):
            self.refused((wrong[first], wrong[second]), first, 0)
            self.refused((ALONE[0], wrong[first], wrong[second]), first, 1)

    def test_a_tie_is_told_at_the_first_hand_whose_peg_is_not_led_back_to(self):
        # The peg tied to itself is no fault; the hand that still leads to it is.
        self.refused(peg_changed(ring(5), 3, 0, (3, 0)), "tie", 4)
        self.refused(peg_changed(ring(5), 3, 1, (3, 1)), "tie", 2)
        self.refused(peg_changed(ring(5), 3, 0, (1, 1)), "tie", 3)

    def test_a_tie_to_a_fifth_peg_waits_for_the_hand_that_has_it(self):
        web = ((0, ((1, 4),)), (0, ((1, 0), (1, 1), (1, 2), (1, 3), (0, 0))))
        self.refused(web, "pegs", 1)

    def test_apart_only_where_nothing_else_is_due(self):
        far = ((0, ()), (0, ()))
        self.refused(far + ((10, ()),), "mark", 2)
        self.refused(far + ((0, ((2, 0),) * 5),), "pegs", 2)
        self.refused(far + ((0, ((2, 1),)),), "tie", 2)

    def test_every_small_tuple(self):
        """All of one and two hands with few pegs, beside a plain list of all that is due."""
        ends = list(itertools.product((-1, 0, 1, 2), repeat=2))
        rows = [()] + [(end,) for end in ends] + list(itertools.product(ends, repeat=2))
        hands = [(0, pegs) for pegs in rows]
        for web in itertools.chain(zip(hands), itertools.product(hands, repeat=2)):
            self.assertEqual(outcome(web), expected(web), web)


class AskedAgain(unittest.TestCase):
    def test_nothing_is_changed_and_the_same_is_told(self):
        refused = [(), ((10, ()),), ((0, ((0, 1),)),), ring(3) + ALONE]
        for web in WEBS + refused + WEBS:
            ahead = repr(web)
            self.assertEqual(outcome(web), outcome(web))
            self.assertEqual(repr(web), ahead)


def outcome(web):
    """True, or what NoWeb kept."""
    try:
        return look(web)
    except NoWeb as error:
        return (error.word, error.at)


def expected(web):
    """For webs of hands with mark 0 and at most four pegs: what look is due to tell."""
    leads = {}
    for hand, (mark, pegs) in enumerate(web):
        for peg, end in enumerate(pegs):
            leads[(hand, peg)] = end
    wrong = [start[0] for start, end in leads.items() if leads.get(end) != start]
    if wrong:
        return ("tie", min(wrong))
    near = {0}
    for again in web:
        near |= {end[0] for start, end in leads.items() if start[0] in near}
    far = [hand for hand in range(len(web)) if hand not in near]
    return ("apart", far[0]) if far else True


if __name__ == "__main__":
    unittest.main()
