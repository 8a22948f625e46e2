"""The whole: points 1 and 3, from a web's text to what the desk tells of it."""

import itertools
import random
import unittest

from drawn import drawn_order, drawn_programs, drawn_web, drawn_webs
from namelesshall.above import above
from namelesshall.answering import answering
from namelesshall.beneath import beneath, is_own
from namelesshall.desk import Desk
from namelesshall.halls import Hall
from namelesshall.leadings import is_leading
from namelesshall.lesser import lesser_webs
from namelesshall.numbers import numbers_of_two
from namelesshall.papers import holds, paper_of
from namelesshall.parting import parted
from namelesshall.programtexts import show_program
from namelesshall.runs import by_order, in_step
from namelesshall.together import together
from namelesshall.webs import look
from namelesshall.webtexts import read_web, show_web
from samples import small_webs
from test_desk import one_row
from test_making import covering, structured

WEBS = structured() + covering() + small_webs()[::4] + [
    web for hands in range(1, 7) for web in drawn_webs(100 + hands, hands, 12)]


def quiet_hall(web, program, chance, most):
    """A hall behind drawn turns till no turn would do something, or None where they are too many."""
    hall = Hall(web, program)
    for again in range(most):
        for hand in drawn_order(chance, len(web), 10):
            hall.turn(hand)
        ahead = [hall.done(hand) + [hall.told(hand)] for hand in range(len(web))]
        for hand in range(len(web)):
            hall.turn(hand)
        if [hall.done(hand) + [hall.told(hand)] for hand in range(len(web))] == ahead:
            return hall
    return None


class OneOfTwo(unittest.TestCase):
    """For every web a program or a lesser web, never both; of a lesser web no program's order makes one first."""

    def test_just_one_is_told_and_holds(self):
        sorts = []
        for web in WEBS:
            paper = paper_of(web)
            self.assertTrue(holds(web, paper))
            sorts.append(paper[0])
            if paper[0] == "first":
                self.assertEqual(len(lesser_webs(web)), 1)
            else:
                self.assertTrue(is_leading(web, paper[1], paper[2]))
                self.assertLess(len(paper[1]), len(web))
        self.assertGreater(sorts.count("first"), 50)
        self.assertGreater(sorts.count("led"), 30)

    def test_in_every_order_just_one_is_first(self):
        chance = random.Random(3)
        for web in WEBS[::5]:
            paper = paper_of(web)
            if paper[0] == "first":
                hall = quiet_hall(web, paper[1], chance, 1000)
                ends = [hall.told(hand)[3] for hand in range(len(web))]
                self.assertEqual(sorted(ends), [0] * (len(web) - 1) + [1])

    def test_over_a_lesser_web_as_many_end_as_sheets_times_those_beneath(self):
        chance = random.Random(4)
        seen = 0
        for web in covering():
            lesser, leading = beneath(web)
            for program in drawn_programs(41, 12):
                high, low = quiet_hall(web, program, chance, 30), quiet_hall(lesser, program, chance, 30)
                if high is None or low is None:
                    continue
                seen += 1
                for hand, led in enumerate(leading):
                    self.assertEqual(high.done(hand), low.done(led))
                    self.assertEqual(high.told(hand), low.told(led))
        self.assertGreater(seen, 50)


class HeardAlike(unittest.TestCase):
    def test_a_row_of_pegs_parts_just_where_numbers_do(self):
        for one, other in zip(WEBS, WEBS[7:]):
            both = len(one) + len(other)
            for hand, place in itertools.product(range(len(one)), range(len(other))):
                row = parted(one, hand, other, place)
                turns = [turn for turn in range(both)
                         if numbers_of_two(one, other, turn)[0][hand] != numbers_of_two(one, other, turn)[1][place]]
                self.assertEqual(None if row is None else len(row), turns[0] if turns else None)

    def test_hands_that_are_not_parted_do_the_same(self):
        for web in WEBS[::6]:
            for program in drawn_programs(42, 6):
                word, ends, rounds = in_step(web, program, 40)
                if word == "spent":
                    continue
                for hand, place in itertools.combinations(range(len(web)), 2):
                    if parted(web, hand, web, place) is None:
                        self.assertEqual(ends[hand], ends[place])


class BeneathAndAbove(unittest.TestCase):
    def test_all_lesser_webs_lie_over_the_least(self):
        for web in WEBS[::3]:
            least, leading = beneath(web)
            for lesser, parting in lesser_webs(web):
                self.assertEqual(beneath(lesser)[0], least)

    def test_two_webs_lie_under_a_third_or_are_told_apart(self):
        few = [web for web in WEBS if len(web) <= 5]
        chance = random.Random(5)
        for again in range(120):
            one, other = chance.choice(few), chance.choice(few)
            third = together(one, other)
            told = answering((one,), (other,))
            self.assertEqual(told[0], "program" if third is None else "bar")
            if third is not None:
                # Every program errs at one of them: hands end alike that are led to the same hand beneath.
                web, f, g = third
                self.assertTrue(is_leading(web, one, f) and is_leading(web, other, g))

    def test_what_lies_above_has_the_same_least_web(self):
        for web in WEBS[::4]:
            told = above(web, 2)
            if told is not None:
                self.assertEqual(beneath(told[0])[0], beneath(web)[0])
                self.assertFalse(is_own(told[0]))
                if len(told[0]) <= 6:
                    self.assertEqual(paper_of(told[0])[0], "led")


class FromTextToDesk(unittest.TestCase):
    def test_a_web_is_read_told_of_and_run_as_the_desk_tells(self):
        chance = random.Random(1)
        for at, program in enumerate(drawn_programs(11, 60)):
            text = show_web(drawn_web(chance, chance.randint(1, 6)))
            web = read_web(text)
            self.assertTrue(look(web))
            desk = Desk()
            self.assertEqual(desk.say(f"web w {one_row(text)}"), "kept")
            self.assertEqual(desk.say(f"program p {one_row(show_program(program))}"), "kept")
            self.assertEqual(desk.say("text w"), one_row(text))
            least, leading = beneath(web)
            self.assertEqual(desk.say("least w").split(" "), [str(number) for number in (len(least),) + leading])
            self.assertEqual(desk.say("keep l w"), one_row(show_web(least)))
            self.assertEqual(desk.say("first w").split(" ")[0], paper_of(web)[0])
            for hand in range(len(web)):
                self.assertEqual(desk.say(f"parted w {hand} l {leading[hand]}"), "alike")
            word, ends, rounds = in_step(web, program, 12)
            self.assertEqual(desk.say("run p w 12").split(" ")[:2], [word, str(rounds)])
            order = tuple(range(len(web))) * rounds
            self.assertEqual(tuple(told[3] for told in by_order(web, program, order)), ends)
            if len(web) <= 5:
                self.assertEqual(desk.say("apart w l"), "bar")


if __name__ == "__main__":
    unittest.main()
