"""The program made from a number of hands: points 30 and 31."""

import random
import unittest

from drawn import drawn_order, drawn_webs
from namelesshall.beneath import is_own
from namelesshall.changed import exchanged, marked, renamed
from namelesshall.halls import Hall
from namelesshall.lesser import lesser_webs
from namelesshall.making import first_program
from namelesshall.runs import in_step
from namelesshall.webs import look
from samples import (ALONE, CROSSED, MIXED, OWN_TIE, SELF_TIED, SEVERAL, alike_row, changed, covers, late_row, lifted,
                     line, renamings, ring, small_webs, star)
from test_bounds import WithinBounds

PROGRAMS = {n: first_program(n) for n in range(1, 7)}


def alike_line(many):
    """A line of hands of the mark 0."""
    return tuple((0, pegs) for mark, pegs in line(many))


def six_sheets():
    """Webs of six hands over one hand."""
    webs = [ring(6)]
    on, back, about = (1, 2, 3, 4, 5, 0), (0, 5, 4, 3, 2, 1), (1, 0, 5, 4, 3, 2)
    webs.append(lifted(CROSSED, 6, {(0, 0): on, (0, 1): back})[0])
    webs.append(lifted(CROSSED, 6, {(0, 0): (1, 2, 0, 4, 5, 3), (0, 1): (3, 5, 4, 0, 2, 1)})[0])
    webs.append(lifted(((4, ((0, 0), (0, 1))),), 6, {(0, 0): back, (0, 1): about})[0])
    return webs


def covering():
    """Webs of two to six hands over a lesser one, of two, three and six sheets."""
    return [web for web, lesser, leading in covers() if len(web) <= 6] + six_sheets()


def structured():
    """Rings, rows, stars and others, of one to six hands, with one mark and without."""
    webs = [ALONE, SELF_TIED, OWN_TIE, CROSSED, SEVERAL, MIXED, star(4), star(3), star(2)]
    for many in range(1, 7):
        webs += [ring(many), alike_row(many), line(many), alike_line(many)]
        webs += [late_row(many)] if many > 1 else []
    for web in list(webs):
        webs.append(marked(web, (0,), 7))
        webs.append(marked(web, (len(web) - 1,), 9))
        webs.append(marked(web, tuple(range(0, len(web), 2)), 1))
    return webs


def rounds_for(hands):
    return 20 * hands * hands + 60


class Made(WithinBounds):
    def test_programs_are_within_the_bounds(self):
        for n, program in PROGRAMS.items():
            self.is_within_bounds(program)
            self.assertIs(type(program), tuple)

    def test_asked_again_the_same_is_told(self):
        for n in (6, 1, 5, 2, 4, 3):
            self.assertEqual(first_program(n), PROGRAMS[n])


class First(unittest.TestCase):
    def ends(self, web):
        """The ends of a run in step, over within the rounds promised."""
        self.assertIs(look(web), True)
        word, ends, rounds = in_step(web, PROGRAMS[len(web)], rounds_for(len(web)))
        self.assertEqual(word, "over", web)
        return ends

    def one_is_first(self, web):
        self.assertEqual(sorted(self.ends(web)), [0] * (len(web) - 1) + [1], web)

    def none_is_first(self, web):
        self.assertEqual(self.ends(web), (2,) * len(web), web)

    def told(self, web):
        """As it lies over a lesser web or not; whether it is its own least."""
        own = is_own(web)
        if own:
            self.one_is_first(web)
        else:
            self.none_is_first(web)
        return own


class InStep(First):
    def test_structured_webs(self):
        owns = [self.told(web) for web in structured()]
        self.assertGreater(owns.count(True), 20)
        self.assertGreater(owns.count(False), 10)

    def test_webs_that_are_their_own_least(self):
        for web in (ALONE, SELF_TIED, OWN_TIE, CROSSED, SEVERAL, MIXED, line(6), star(4), late_row(6)):
            self.one_is_first(web)
        for many in range(2, 7):
            self.one_is_first(marked(ring(many), (many // 2,), 3))

    def test_webs_over_a_lesser_one(self):
        for web in covering():
            self.assertFalse(is_own(web))
            self.none_is_first(web)
        for web in six_sheets():
            self.assertEqual(len(lesser_webs(web)[0][0]), 1)
        for many in range(2, 7):
            self.none_is_first(ring(many))

    def test_all_small_webs(self):
        for web in small_webs():
            self.assertEqual(self.told(web), len(lesser_webs(web)) == 1)

    def test_drawn_webs(self):
        for hands, many in ((1, 40), (2, 150), (3, 150), (4, 120), (5, 80), (6, 60)):
            for web in drawn_webs(300 + hands, hands, many):
                self.told(web)
            for web in drawn_webs(310 + hands, hands, many // 2, marks=(0,)):
                self.told(web)
            for web in drawn_webs(320 + hands, hands, many // 4, marks=tuple(range(10))):
                self.told(web)

    def test_drawn_webs_of_few_pegs(self):
        for hands in (3, 4, 5, 6):
            for web in drawn_webs(330 + hands, hands, 40, most_pegs=2, marks=(0,)):
                self.told(web)

    def test_hands_of_four_pegs(self):
        # What is said and heard is largest here: no hand bursts.
        chance = random.Random(34)
        seen = []
        for hands in (4, 5, 6):
            webs = [web for web in drawn_webs(340 + hands, hands, 4000, marks=(9,))
                    if all(len(pegs) == 4 for mark, pegs in web)]
            for web in webs[:6]:
                seen.append(self.told(web))
                mark = chance.randrange(9)
                self.told(marked(web, (chance.randrange(hands),), mark))
        self.assertGreater(len(seen), 5)

    def test_six_hands_of_four_pegs_that_tell_themselves_apart_late(self):
        # A ring of two ties each, and one tie within a hand that stands another way.
        web = tuple((0, (((hand + 1) % 6, 1), ((hand - 1) % 6, 0), (hand, 3), (hand, 2))) for hand in range(6))
        self.none_is_first(web)
        self.one_is_first(changed(web, 3, pegs=web[3][1][:2] + ((3, 2), (3, 3))))
        self.one_is_first(exchanged(web, 2, 0, 1))
        self.one_is_first(exchanged(web, 2, 1, 2))

    def test_webs_called_anew(self):
        for web in structured()[::3]:
            for row in renamings(len(web))[:5]:
                self.assertEqual(sorted(self.ends(renamed(web, row))), sorted(self.ends(web)))

    def test_the_same_hand_is_first_whatever_it_is_called(self):
        for web in (line(6), late_row(5), MIXED, star(4)):
            first = self.ends(web).index(1)
            for row in renamings(len(web)):
                self.assertEqual(self.ends(renamed(web, row)).index(1), row[first])


class ByOtherOrders(First):
    def ends_by(self, web, orders):
        """The ends when no turn would do something, by these orders one after the other, again and again."""
        hall = Hall(web, PROGRAMS[len(web)])
        while True:
            ahead = [hall.told(hand) for hand in range(len(web))]
            for hand in next(orders):
                hall.turn(hand)
            if [hall.told(hand) for hand in range(len(web))] == ahead:
                # Each hand has had a turn, and none did something.
                break
        for hand in range(len(web)):
            self.assertEqual(hall.told(hand)[0], "ended")
        return tuple(hall.told(hand)[3] for hand in range(len(web)))

    def test_the_same_ends(self):
        chance = random.Random(31)
        webs = structured()[::4] + covering()[::4]
        for hands in range(1, 7):
            webs += drawn_webs(350 + hands, hands, 8)
        for web in webs:
            expected = self.ends(web)
            self.assertEqual(self.ends_by(web, backwards(len(web))), expected, web)
            self.assertEqual(self.ends_by(web, one_by_one(len(web))), expected, web)
            self.assertEqual(self.ends_by(web, drawn_orders(chance, len(web))), expected, web)


def backwards(hands):
    """Rounds from the last hand to the first."""
    while True:
        yield tuple(range(hands))[::-1]


def one_by_one(hands):
    """Each hand goes as far as it can, then the next one."""
    while True:
        yield tuple(hand for hand in range(hands) for again in range(40))


def drawn_orders(chance, hands):
    """Orders in which some come more often, each hand at least once."""
    while True:
        yield drawn_order(chance, hands, 60) + tuple(range(hands))


if __name__ == "__main__":
    unittest.main()
