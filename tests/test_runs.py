"""Runs by an order and in step: points 28 and 29, and what point 3 says of webs that lie over others."""

import random
import unittest

from drawn import drawn_order, drawn_programs, drawn_web
from namelesshall.halls import Hall
from namelesshall.programtexts import read_program
from namelesshall.runs import by_order, in_step
from samples import ALONE, MIXED, OWN_TIE, SELF_TIED, covers, is_told, line, ring, star
from test_halls import PAIR
from test_terms import wide

WEBS = [ALONE, SELF_TIED, OWN_TIE, MIXED, PAIR, ring(3), ring(8), line(4), star(3)]

COUNTING = read_program("set i (plus i 1)\ntest ahead i 5 0\nend (bundle i mark)")
ASKING = read_program("set x mark\nswap h (bundle x h)\nset x (gather x h)\ntest ahead (many x) 3 1\nend x")
SWAPPING = read_program("swap x (bundle mark pegs)\nswap y (many x)\nend (bundle x y)")


def hall_behind(web, program, order):
    """The hall behind these turns."""
    hall = Hall(web, program)
    for hand in order:
        hall.turn(hand)
    return hall


def doings(web, program, order):
    """What each hand has done behind this order."""
    hall = hall_behind(web, program, order)
    return [hall.done(hand) for hand in range(len(web))]


def is_beginning(one, other):
    """Whether the one list is a beginning of the other, or the other way about."""
    return one == other[:len(one)] or other == one[:len(other)]


class ByOrder(unittest.TestCase):
    def told(self, web, program, order, expected):
        told = by_order(web, program, order)
        self.assertEqual(told, expected)
        self.assertIs(type(told), tuple)
        self.assertTrue(is_told(told))

    def test_the_order_of_none(self):
        for web in WEBS:
            self.told(web, COUNTING, (), (("goes", 0, (), None),) * len(web))

    def test_one_hand_again_and_again(self):
        first = ("goes", 0, (), None)
        self.told(PAIR, COUNTING, (1,), (first, ("goes", 1, (("i", 1),), None)))
        self.told(PAIR, COUNTING, (1, 1), (first, ("goes", 0, (("i", 1),), None)))
        self.told(PAIR, COUNTING, (1,) * 10, (first, ("goes", 2, (("i", 5),), None)))
        self.told(PAIR, COUNTING, (1,) * 11, (first, ("ended", None, (("i", 5),), (5, 2))))
        self.told(PAIR, COUNTING, (1,) * 400, (first, ("ended", None, (("i", 5),), (5, 2))))
        self.told(PAIR, SWAPPING, (0,) * 50, (("said", 0, (), None), first))

    def test_all_hands_by_turns(self):
        self.told(PAIR, SWAPPING, (0, 1, 0, 1), (
            ("goes", 1, (("x", ((0, (2, 1)),)),), None), ("goes", 1, (("x", ((0, (1, 1)),)),), None)))
        heard = [(("x", ((0, (2, 1)),)), ("y", ((0, 1),))), (("x", ((0, (1, 1)),)), ("y", ((0, 1),)))]
        ends = [(names[0][1], names[1][1]) for names in heard]
        self.told(PAIR, SWAPPING, (0, 1) * 5, (
            ("ended", None, heard[0], ends[0]), ("ended", None, heard[1], ends[1])))

    def test_an_order_of_400_turns(self):
        for web in WEBS:
            order = tuple(at % len(web) for at in range(400))
            for told in by_order(web, COUNTING, order):
                self.assertEqual(told[0], "ended")

    def test_as_the_halls_own_turns_tell(self):
        chance = random.Random(28)
        for program in drawn_programs(281, 150) + [COUNTING, ASKING, SWAPPING] * 10:
            web = drawn_web(chance, chance.randint(1, 5))
            order = drawn_order(chance, len(web), chance.choice((0, 1, 10, 60, 400)))
            hall = hall_behind(web, program, order)
            self.told(web, program, order, tuple(hall.told(hand) for hand in range(len(web))))

    def test_doings_are_beginnings_of_one_row_whatever_the_order(self):
        chance = random.Random(282)
        for program in drawn_programs(283, 150) + [COUNTING, ASKING, SWAPPING] * 10:
            web = drawn_web(chance, chance.randint(1, 5))
            rows = [doings(web, program, drawn_order(chance, len(web), turns)) for turns in (20, 60, 60, 200, 400)]
            for one in rows:
                for other in rows:
                    for hand in range(len(web)):
                        self.assertTrue(is_beginning(one[hand], other[hand]), (web, program))

    def test_a_burst_hand(self):
        program = (("set", "x", ("number", 1)), ("set", "x", ("value", wide(601))))
        self.told(ALONE, program, (0,) * 5, (("burst", 1, (("x", 1),), None),))


class InStep(unittest.TestCase):
    def told(self, web, program, rounds, word, ends, many):
        told = in_step(web, program, rounds)
        self.assertEqual(told, (word, ends, many))
        self.assertIs(type(told), tuple)
        self.assertIs(type(told[1]), tuple)
        self.assertTrue(is_told(told))

    def test_over_behind_just_so_many_rounds(self):
        # Ten rounds of counting and one of the end.
        ends = ((5, 1), (5, 2))
        self.told(PAIR, COUNTING, 11, "over", ends, 11)
        self.told(PAIR, COUNTING, 10, "spent", (None, None), 10)
        self.told(PAIR, COUNTING, 12, "over", ends, 11)
        self.told(PAIR, COUNTING, 800, "over", ends, 11)
        self.told(ALONE, (("end", ("number", 7)),), 1, "over", (7,), 1)
        self.told(ALONE, (("end", ("number", 7)),), 2, "over", (7,), 1)

    def test_no_rounds(self):
        for web in WEBS:
            for program in (COUNTING, ASKING, SWAPPING, (("end", ("number", 1)),)):
                self.told(web, program, 0, "spent", (None,) * len(web), 0)

    def test_spent(self):
        for rounds in (1, 2, 7, 400, 800):
            self.told(PAIR, (("go", 0),), rounds, "spent", (None, None), rounds)

    def test_spent_where_some_have_ended(self):
        program = read_program("test same mark 1 0\nend 4")
        self.told(PAIR, program, 50, "spent", (None, 4), 50)

    def test_swaps(self):
        # Said, heard, said, heard, ended.
        ends = ((((0, (2, 1)),), ((0, 1),)), (((0, (1, 1)),), ((0, 1),)))
        self.told(PAIR, SWAPPING, 5, "over", ends, 5)
        self.told(PAIR, SWAPPING, 4, "spent", (None, None), 4)
        self.told(PAIR, SWAPPING, 6, "over", ends, 5)

    def test_a_hand_without_pegs(self):
        program = read_program("swap x 1\nswap y 2\nend (bundle x y)")
        self.told(ALONE, program, 800, "over", (((), ()),), 5)

    def test_stuck(self):
        # Hand 0 ends in the second round; hand 1 says in the second one, and nothing comes in the third.
        program = read_program("test same mark 1 2\nswap x 1\nend 5")
        self.told(PAIR, program, 800, "stuck", (5, None), 3)
        self.told(PAIR, program, 3, "stuck", (5, None), 3)
        self.told(PAIR, program, 2, "spent", (5, None), 2)

    def test_stuck_behind_a_hand_that_has_ended(self):
        # Hand 0 swaps twice, hand 1 once: the second word never comes.
        program = read_program("test same mark 1 3\nswap x 1\nend 6\nswap x 1\nswap x 2\nend 7")
        self.told(PAIR, program, 800, "stuck", (None, 6), 5)

    def test_a_round_in_which_hands_only_go_to_themselves_is_not_stuck(self):
        program = read_program("test same mark 1 2\nswap x 1\ngo 2")
        self.told(PAIR, program, 30, "spent", (None, None), 30)

    def test_to_come_to_wait_is_to_do_something(self):
        # In the last round but one nothing is done but to say.
        program = read_program("test same mark 1 2\nswap x 1\nend 5")
        self.assertEqual(in_step(PAIR, program, 2)[0], "spent")
        # Hand 1 counts, says, and is the only one that does something in that round.
        program = read_program("test same mark 1 5\nset i (plus i 1)\ntest ahead i 3 1\nswap x 1\nend 1\nend 5")
        self.told(PAIR, program, 800, "stuck", (5, None), 9)
        self.told(PAIR, program, 8, "spent", (5, None), 8)

    def test_to_wait_without_pegs_to_hear_and_to_burst_are_to_do_something(self):
        self.told(ALONE, read_program("swap x 1\nend x"), 1, "spent", (None,), 1)
        self.told(ALONE, read_program("swap x 1\nend x"), 2, "spent", (None,), 2)
        self.told(ALONE, read_program("swap x 1\nend x"), 3, "over", ((),), 3)
        burst = (("end", ("value", wide(601))),)
        self.told(ALONE, burst, 1, "over", (None,), 1)
        # One bursts in a round in which the other one waits: that round is not stuck.
        program = (("test", "same", ("mark",), ("number", 1), 3), ("swap", "x", ("mark",)), ("end", ("number", 2)),
                   ("set", "x", ("number", 0)), ("set", "x", ("value", wide(601))))
        self.told(PAIR, program, 3, "spent", (None, None), 3)
        self.told(PAIR, program, 4, "stuck", (None, None), 4)
        self.told(PAIR, program, 800, "stuck", (None, None), 4)

    def test_ends_with_none_for_a_burst_hand(self):
        program = (("test", "same", ("mark",), ("number", 1), 2), ("end", ("value", wide(601))), ("end", ("number", 3)))
        self.told(PAIR, program, 800, "over", (3, None), 2)

    def test_a_word_is_taken_in_the_round_by_a_later_hand_that_had_said_before(self):
        # Hand 1 says in the second round, hand 0 in the third one: hand 1 hears it in the same, hand 0 in the fourth.
        program = read_program("test same mark 2 2\nset i 1\nswap x (bundle mark)\nend x")
        self.told(PAIR, program, 800, "over", (((0, (2,)),), ((0, (1,)),)), 5)
        told = [by_order(PAIR, program, (0, 1) * rounds) for rounds in (2, 3, 4)]
        self.assertEqual([(one[0], other[0]) for one, other in told], [("goes", "said"), ("said", "goes"),
                                                                     ("goes", "ended")])
        self.told(PAIR, program, 4, "spent", (None, ((0, (1,)),)), 4)
        # The other way about the word that hand 1 says comes too late for hand 0's turn.
        other = ((2, ((1, 0),)), (1, ((0, 0),)))
        self.told(other, program, 4, "spent", (None, None), 4)
        self.told(other, program, 5, "over", (((0, (1,)),), ((0, (2,)),)), 5)

    def test_as_rounds_of_turns_tell(self):
        chance = random.Random(29)
        seen = set()
        for program in drawn_programs(291, 400) + [COUNTING, ASKING, SWAPPING] * 5:
            web = drawn_web(chance, chance.randint(1, 5))
            for rounds in (0, 1, 3, 25, 80):
                told = in_step(web, program, rounds)
                self.assertEqual(told, stepped(web, program, rounds), (web, program))
                seen.add(told[0])
        self.assertEqual(seen, {"over", "stuck", "spent"})


def stepped(web, program, rounds):
    """(word, ends, rounds) by the words of point 29, from what a Hall tells behind each turn."""
    hall = Hall(web, program)

    def everything():
        return [(hall.told(hand), hall.done(hand)) for hand in range(len(web))]

    def answer(word, many):
        return (word, tuple(hall.told(hand)[3] for hand in range(len(web))), many)

    def over():
        return all(hall.told(hand)[0] in ("ended", "burst") for hand in range(len(web)))

    for many in range(rounds):
        if over():
            return answer("over", many)
        ahead = everything()
        for hand in range(len(web)):
            hall.turn(hand)
        if everything() == ahead:
            return answer("stuck", many + 1)
    return answer("over" if over() else "spent", rounds)


class Over(unittest.TestCase):
    """Where a web lies over another one, hands do what those do to which they are led."""

    def test_doings_are_beginnings_of_those_beneath(self):
        chance = random.Random(30)
        for web, lesser, leading in covers():
            for program in drawn_programs(301, 12) + [COUNTING, ASKING, SWAPPING]:
                above = doings(web, program, drawn_order(chance, len(web), 120))
                beneath = doings(lesser, program, drawn_order(chance, len(lesser), 120))
                for hand, led in enumerate(leading):
                    self.assertTrue(is_beginning(above[hand], beneath[led]), (web, program))

    def test_as_many_end_in_any_way_as_sheets_times_those_beneath(self):
        seen = 0
        for web, lesser, leading in covers():
            for program in drawn_programs(302, 25) + [COUNTING, ASKING, SWAPPING]:
                above, beneath = in_step(web, program, 150), in_step(lesser, program, 150)
                if above[0] == "spent" or beneath[0] == "spent":
                    continue
                seen += 1
                self.assertEqual(above[1], tuple(beneath[1][led] for led in leading), (web, program))
                sheets = len(web) // len(lesser)
                for end in beneath[1]:
                    self.assertEqual(above[1].count(end), sheets * beneath[1].count(end))
        self.assertGreater(seen, 100)


if __name__ == "__main__":
    unittest.main()
