"""Two lists of webs told apart by a program, or barred: points 32 and 33."""

import itertools
import random
import unittest

from drawn import drawn_order, drawn_web, drawn_webs
from namelesshall.answering import answering
from namelesshall.beneath import beneath
from namelesshall.changed import exchanged, marked, renamed
from namelesshall.halls import Hall
from namelesshall.leadings import is_leading
from namelesshall.runs import in_step
from namelesshall.together import together
from namelesshall.webs import look
from samples import (ALONE, CROSSED, MIXED, OWN_TIE, SELF_TIED, SEVERAL, alike_row, changed, covers, is_told, late_row,
                     lifted, line, renamings, ring, small_webs, star)
from test_bounds import WithinBounds
from test_making import alike_line


def four_pegged():
    """Webs of five hands of four pegs each, of which what is told is largest."""
    web = tuple((9, (((hand + 1) % 5, 1), ((hand - 1) % 5, 0), (hand, 3), (hand, 2))) for hand in range(5))
    return [web, exchanged(web, 2, 0, 1), exchanged(web, 2, 1, 2), changed(web, 3, pegs=web[3][1][:2] + ((3, 2), (3, 3))),
            exchanged(exchanged(web, 0, 0, 3), 2, 1, 2)]


class Answers(WithinBounds):
    def barred(self, ones, others, i, j):
        """Barred by these two, as point 14 tells of them."""
        told = answering(ones, others)
        least, f = beneath(ones[i])
        other_least, g = beneath(others[j])
        self.assertEqual(told, ("bar", i, j, least, f, g))
        self.assertTrue(is_told(told))
        self.assertTrue(is_leading(ones[i], told[3], told[4]))
        self.assertTrue(is_leading(others[j], told[3], told[5]))
        self.assertIs(look(told[3]), True)

    def told_apart(self, ones, others):
        """Told apart by a program that is as promised; the program."""
        told = answering(ones, others)
        self.assertIs(type(told), tuple)
        self.assertEqual((len(told), told[0]), (2, "program"), (ones, others))
        self.is_within_bounds(told[1])
        most = max(len(web) for web in ones + others)
        for webs, end in ((ones, 1), (others, 0)):
            for web in webs:
                word, ends, rounds = in_step(web, told[1], 20 * most * most + 60)
                self.assertEqual((word, ends), ("over", (end,) * len(web)), (ones, others, web))
        return told[1]

    def asked(self, ones, others):
        """Whichever is due, by whether two of the webs lie under a third; which it was."""
        due = [(i, j) for i, one in enumerate(ones) for j, other in enumerate(others)
               if together(one, other) is not None]
        if due:
            self.barred(ones, others, *due[0])
            return "bar"
        self.told_apart(ones, others)
        return "program"


class Bars(Answers):
    def test_a_web_and_itself(self):
        for web in (ALONE, SELF_TIED, OWN_TIE, CROSSED, SEVERAL, MIXED, ring(5), line(5), star(4), late_row(5)):
            self.barred((web,), (web,), 0, 0)

    def test_a_list_and_itself(self):
        webs = (line(3), ring(2), MIXED)
        self.barred(webs, webs, 0, 0)
        self.barred(webs, webs[::-1], 0, 2)
        self.barred(webs, webs[1:], 1, 0)

    def test_a_web_and_one_over_it(self):
        for web, lesser, leading in covers():
            if len(web) <= 5:
                self.barred((web,), (lesser,), 0, 0)
                self.barred((lesser,), (web,), 0, 0)
        self.barred((ring(5),), (ring(3),), 0, 0)
        self.assertEqual(answering((ring(2),), (ring(3),)), ("bar", 0, 0, ring(1), (0, 0), (0, 0, 0)))

    def test_a_web_called_anew(self):
        for web in (line(4), MIXED, late_row(4), star(3)):
            for row in renamings(len(web)):
                self.barred((web,), (renamed(web, row),), 0, 0)

    def test_the_first_of_ones_that_has_one_then_the_first_of_others_for_it(self):
        a, b, c, d = line(3), ring(3), MIXED, star(2)
        self.barred((a, b, c), (d, c, b), 1, 2)
        self.barred((a, b, c), (c, b, d), 1, 1)
        self.barred((a, c, b), (d, b, c), 1, 2)
        self.barred((b, b, b), (a, ring(5), ring(2)), 0, 1)
        self.barred((a, d, c), (b, c, c), 2, 1)
        self.barred((a, ring(1), ring(2)), (ring(4), ring(5)), 1, 0)
        self.barred((a, b), (c, ring(4), d), 1, 1)
        self.barred((a,), (b, c, a), 0, 2)
        self.barred((a, b, c), (c,), 2, 0)

    def test_the_leadings_are_those_to_the_least_web(self):
        web = lifted(MIXED, 1, {})[0]
        over = lifted(SEVERAL, 2, {(0, 1): (1, 0)})[0]
        self.barred((web, over), (SEVERAL,), 1, 0)
        told = answering((over,), (SEVERAL,))
        self.assertEqual(told, ("bar", 0, 0, SEVERAL, (0, 1, 0, 1), (0, 1)))


class Programs(Answers):
    def test_webs_of_one_hand(self):
        singles = (ALONE, SELF_TIED, OWN_TIE, CROSSED, ((0, ((0, 0),)),), ((1, ()),))
        for one, other in itertools.permutations(singles, 2):
            self.told_apart((one,), (other,))
        self.told_apart(singles[:3], singles[3:])
        self.told_apart(singles[3:], singles[:3])

    def test_unlike_many_hands_within_a_list(self):
        self.told_apart((line(1), line(3), line(5)), (line(2), line(4), ring(3)))
        self.told_apart((line(5),), (line(1), line(2), line(3)))
        self.told_apart((ALONE, MIXED, star(4)), (late_row(5), late_row(2), SELF_TIED))
        self.told_apart((alike_line(2), alike_line(4)), (alike_line(3), alike_line(5)))
        self.told_apart((alike_line(1), alike_line(3), alike_line(5)), (alike_line(2), alike_line(4)))

    def test_webs_that_differ_by_one_mark_alone(self):
        for web in (ALONE, SELF_TIED, ring(4), ring(5), line(5), star(4), alike_row(5), CROSSED):
            for hand in range(len(web)):
                new = marked(web, (hand,), (web[hand][0] + 1) % 10)
                self.told_apart((web,), (new,))
                self.told_apart((new,), (web,))

    def test_webs_that_differ_by_marks_that_part_alike(self):
        # The numbers of the hands are the same in all of these; only the marks tell.
        webs = [marked(ring(3), (0,), 1), marked(ring(3), (0,), 2), marked(marked(ring(3), (0, 1, 2), 4), (0,), 7)]
        for one, other in itertools.permutations(webs, 2):
            self.told_apart((one,), (other,))
        self.told_apart((ring(1),), (marked(ring(1), (0,), 5),))
        self.told_apart((ring(5),), (marked(ring(5), (0, 1, 2, 3, 4), 5),))

    def test_webs_that_differ_by_two_pegs_exchanged_alone(self):
        for web in (ring(3), ring(5), line(4), line(5), MIXED, SEVERAL, late_row(5), alike_row(5), CROSSED):
            for hand, (mark, pegs) in enumerate(web):
                for p, q in itertools.combinations(range(len(pegs)), 2):
                    self.asked((web,), (exchanged(web, hand, p, q),))
        self.told_apart((ring(5),), (exchanged(ring(5), 2, 0, 1),))
        self.told_apart((line(5),), (exchanged(line(5), 2, 0, 1),))
        self.told_apart((SEVERAL,), (exchanged(SEVERAL, 0, 0, 2),))

    def test_far_apart_from_where_it_is_heard(self):
        web = alike_line(5)
        self.told_apart((web,), (marked(web, (0,), 1), marked(web, (4,), 1)))
        self.told_apart((marked(web, (4,), 1),), (marked(web, (4,), 2), web))
        last = exchanged(web, 3, 0, 1)
        self.told_apart((web,), (last,))
        self.told_apart((last, marked(web, (0,), 1)), (web, marked(last, (0,), 1)))
        self.told_apart((alike_row(5),), (changed(alike_row(5), 4, mark=1),))

    def test_hands_without_pegs(self):
        self.told_apart((ALONE,), (((7, ()),), ring(5), SELF_TIED))
        self.told_apart((line(5), ((7, ()),)), (ALONE, ((3, ()),)))

    def test_webs_over_a_lesser_one(self):
        for web, lesser, leading in covers():
            if len(web) > 5:
                continue
            for hand in (0, len(web) - 1):
                new = marked(web, (hand,), 8)
                self.told_apart((new,), (web, lesser))
                self.told_apart((web, lesser), (new,))
        self.told_apart((ring(4), ring(5), ring(1)), (alike_row(4), marked(ring(4), (0, 2), 3)))

    def test_hands_of_four_pegs(self):
        webs = four_pegged()
        for one, other in itertools.combinations(webs, 2):
            self.asked((one,), (other,))
        self.assertEqual(self.asked(tuple(webs[1:4]), (webs[0], webs[4])), "program")

    def test_three_webs_of_five_hands_on_both_sides(self):
        ones = (late_row(5), line(5), four_pegged()[1])
        others = (four_pegged()[2], ring(5), star(4))
        self.told_apart(ones, others)
        self.told_apart(others, ones)

    def test_small_webs_by_twos(self):
        chance = random.Random(32)
        webs = small_webs()
        seen = [self.asked((chance.choice(webs),), (chance.choice(webs),)) for again in range(300)]
        self.assertGreater(seen.count("bar"), 1)
        self.assertGreater(seen.count("program"), 100)

    def test_drawn_lists(self):
        chance = random.Random(33)
        seen = []
        for again in range(150):
            lists = []
            for side in range(2):
                lists.append(tuple(
                    drawn_web(chance, chance.randint(1, 5), chance.randint(2, 4), marks=(0, 0, 0, 6))
                    for web in range(chance.randint(1, 3))))
            if chance.random() < 0.2:
                web = chance.choice(lists[0])
                row = list(range(len(web)))
                chance.shuffle(row)
                lists[1] = lists[1][1:] + (renamed(web, tuple(row)),)
            seen.append(self.asked(*lists))
        self.assertGreater(seen.count("bar"), 10)
        self.assertGreater(seen.count("program"), 60)

    def test_drawn_webs_of_five_hands_alike_in_marks_and_pegs(self):
        webs = [web for web in drawn_webs(34, 5, 400, most_pegs=3, marks=(0,))
                if all(len(pegs) > 1 for mark, pegs in web)]
        for at in range(0, 36, 6):
            self.asked(tuple(webs[at:at + 3]), tuple(webs[at + 3:at + 6]))

    def test_by_other_orders_the_same(self):
        chance = random.Random(35)
        ones, others = (line(4), ring(3), MIXED), (late_row(4), marked(ring(3), (1,), 2), star(3))
        program = self.told_apart(ones, others)
        for webs, end in ((ones, 1), (others, 0)):
            for web in webs:
                hall = Hall(web, program)
                while any(hall.told(hand)[0] != "ended" for hand in range(len(web))):
                    for hand in drawn_order(chance, len(web), 50):
                        hall.turn(hand)
                self.assertEqual([hall.told(hand)[3] for hand in range(len(web))], [end] * len(web))

    def test_webs_with_the_same_least_web_are_answered_alike(self):
        # The program is made from two webs, and tells of all that lie over them, too, as far as it hears.
        program = self.told_apart((marked(ring(2), (0,), 4), ring(5)), (line(2),))
        for many in (1, 3, 4):
            self.assertEqual(in_step(ring(many), program, 560)[:2], ("over", (1,) * many))


if __name__ == "__main__":
    unittest.main()
