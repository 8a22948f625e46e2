"""Halls, turns, and what is told of a hand: points 23, 26 and 27."""

import random
import unittest

from drawn import drawn_order, drawn_programs, drawn_web
from namelesshall.halls import Hall
from namelesshall.programtexts import read_program
from samples import ALONE, CROSSED, OWN_TIE, SELF_TIED, is_told, line, ring, star
from test_terms import reckoned, wide
from test_values import nested, order_of

PAIR = ((1, ((1, 0),)), (2, ((0, 0),)))


def hall_of(web, *rows):
    """A hall of this web and of the program of these rows of text."""
    return Hall(web, read_program("\n".join(rows)))


class Halls(unittest.TestCase):
    def turned(self, hall, *order):
        for hand in order:
            self.assertIsNone(hall.turn(hand))

    def stands(self, hall, hand, state, row, names=(), end=None):
        told = hall.told(hand)
        self.assertEqual(told, (state, row, names, end))
        self.assertIs(type(told), tuple)
        self.assertIs(type(told[2]), tuple)
        self.assertTrue(is_told(told))

    def lies(self, hall, hand, *pegs):
        for peg, words in enumerate(pegs):
            self.assertEqual(hall.lying(hand, peg), words)
            self.assertIs(type(hall.lying(hand, peg)), tuple)

    def has_done(self, hall, hand, *pairs):
        self.assertEqual(hall.done(hand), list(pairs))
        self.assertIs(type(hall.done(hand)), list)


class AtFirst(Halls):
    def test_each_hand_stands_at_row_0(self):
        for web in (ALONE, SELF_TIED, PAIR, ring(8), line(5), star(4)):
            hall = hall_of(web, "swap x 1", "end x")
            for hand, (mark, pegs) in enumerate(web):
                self.stands(hall, hand, "goes", 0)
                self.has_done(hall, hand)
                self.lies(hall, hand, *[()] * len(pegs))


class RowsDone(Halls):
    def test_set(self):
        hall = hall_of(PAIR, "set x mark", "set y (bundle x pegs)", "set x 9", "end x")
        self.turned(hall, 1)
        self.stands(hall, 1, "goes", 1, (("x", 2),))
        self.stands(hall, 0, "goes", 0)
        self.turned(hall, 1)
        self.stands(hall, 1, "goes", 2, (("x", 2), ("y", (2, 1))))
        self.turned(hall, 1)
        self.stands(hall, 1, "goes", 3, (("x", 9), ("y", (2, 1))))
        self.turned(hall, 0)
        self.stands(hall, 0, "goes", 1, (("x", 1),))
        self.has_done(hall, 1, (0, 2), (1, (2, 1)), (2, 9))
        self.has_done(hall, 0, (0, 1))

    def test_test_by_same(self):
        hall = hall_of(PAIR, "test same mark 2 2", "end 5", "test same [1 []] (bundle 1 (bundle)) 4", "end 6",
                       "test same 1 [1] 0", "end 7")
        self.turned(hall, 0, 1)
        self.stands(hall, 0, "goes", 1)
        self.has_done(hall, 0, (0, 0))
        self.stands(hall, 1, "goes", 2)
        self.has_done(hall, 1, (0, 1))
        self.turned(hall, 1)
        self.stands(hall, 1, "goes", 4)
        self.turned(hall, 1)
        self.stands(hall, 1, "goes", 5)
        self.has_done(hall, 1, (0, 1), (2, 1), (4, 0))

    def test_test_by_ahead(self):
        for one, other, so in (
            ("1", "2", 1), ("2", "1", 0), ("1", "1", 0), ("9", "[]", 1), ("[]", "9", 0), ("[]", "[]", 0),
            ("[]", "[0]", 1), ("[9]", "[0 0]", 1), ("[0 0]", "[9]", 0), ("[1 2]", "[1 3]", 1), ("[1 3]", "[1 2]", 0),
            ("[1 2]", "[2 1]", 1), ("[[] 0]", "[5 0]", 0), ("[5 0]", "[[] 0]", 1),
        ):
            hall = hall_of(ALONE, f"test ahead {one} {other} 2", "end 1", "end 2")
            self.turned(hall, 0)
            self.stands(hall, 0, "goes", 2 if so else 1)
            self.has_done(hall, 0, (0, so))

    def test_a_test_leads_back_and_to_itself(self):
        hall = hall_of(ALONE, "set i (plus i 1)", "test ahead i 3 0", "test same 1 1 2")
        self.turned(hall, *[0] * 6)
        self.stands(hall, 0, "goes", 2, (("i", 3),))
        self.turned(hall, *[0] * 5)
        self.stands(hall, 0, "goes", 2, (("i", 3),))
        self.has_done(hall, 0, (0, 1), (1, 1), (0, 2), (1, 1), (0, 3), (1, 0), *[(2, 1)] * 5)

    def test_go(self):
        hall = hall_of(ALONE, "go 2", "end 1", "go 1")
        self.turned(hall, 0)
        self.stands(hall, 0, "goes", 2)
        self.turned(hall, 0)
        self.stands(hall, 0, "goes", 1)
        self.turned(hall, 0)
        self.stands(hall, 0, "ended", None, (), 1)
        self.has_done(hall, 0, (0, 0), (2, 0), (1, 1))

    def test_go_to_itself(self):
        hall = hall_of(ALONE, "go 0")
        self.turned(hall, *[0] * 7)
        self.stands(hall, 0, "goes", 0)
        self.has_done(hall, 0, *[(0, 0)] * 7)

    def test_four_thousand_turns(self):
        hall = hall_of(PAIR, "set i (plus i 1)", "swap h i", "go 0")
        self.turned(hall, *[0, 1] * 2000)
        self.stands(hall, 0, "goes", 0, (("h", ((0, 500),)), ("i", 500)))
        self.assertEqual(len(hall.done(1)), 1500)
        hall = hall_of(ALONE, "set x (plus x (plus 1 x))", "go 0")
        self.turned(hall, *[0] * 4000)
        self.stands(hall, 0, "goes", 0, (("x", 2 ** 2000 - 1),))

    def test_end(self):
        for term, value in (("0", 0), ("5", 5), ("[]", ()), ("(bundle mark [3])", (0, (3,)))):
            hall = hall_of(ALONE, f"end {term}", "set x 1")
            self.turned(hall, 0)
            self.stands(hall, 0, "ended", None, (), value)
            self.has_done(hall, 0, (0, value))

    def test_an_ended_hand_does_nothing(self):
        hall = hall_of(PAIR, "set x 1", "end x", "set x 2")
        self.turned(hall, *[0] * 9)
        self.stands(hall, 0, "ended", None, (("x", 1),), 1)
        self.has_done(hall, 0, (0, 1), (1, 1))
        self.stands(hall, 1, "goes", 0)


class BehindTheLastRow(Halls):
    """The end with 0, in the turn of the last row; it is none of the hand's doings."""

    def test_behind_a_set(self):
        hall = hall_of(ALONE, "set x 5")
        self.turned(hall, 0)
        self.stands(hall, 0, "ended", None, (("x", 5),), 0)
        self.has_done(hall, 0, (0, 5))

    def test_behind_a_swap_that_is_heard(self):
        hall = hall_of(PAIR, "swap x mark")
        self.turned(hall, 0)
        self.stands(hall, 0, "said", 0)
        self.turned(hall, 1)
        self.stands(hall, 1, "said", 0)
        self.turned(hall, 1)
        self.stands(hall, 1, "ended", None, (("x", ((0, 1),)),), 0)
        self.has_done(hall, 1, (0, ((0, 1),)))
        self.turned(hall, 0)
        self.stands(hall, 0, "ended", None, (("x", ((0, 2),)),), 0)

    def test_behind_a_swap_without_pegs(self):
        hall = hall_of(ALONE, "swap x 5")
        self.turned(hall, 0)
        self.stands(hall, 0, "said", 0)
        self.turned(hall, 0)
        self.stands(hall, 0, "ended", None, (("x", ()),), 0)
        self.has_done(hall, 0, (0, ()))

    def test_a_test_that_is_the_last_row(self):
        hall = hall_of(PAIR, "go 1", "test same mark 1 0")
        self.turned(hall, 0, 0, 1, 1)
        self.stands(hall, 0, "goes", 0)
        self.has_done(hall, 0, (0, 0), (1, 1))
        self.stands(hall, 1, "ended", None, (), 0)
        self.has_done(hall, 1, (0, 0), (1, 0))

    def test_an_end_that_is_the_last_row(self):
        hall = hall_of(ALONE, "set x 3", "end [7]")
        self.turned(hall, 0, 0)
        self.stands(hall, 0, "ended", None, (("x", 3),), (7,))
        self.has_done(hall, 0, (0, 3), (1, (7,)))


class Swaps(Halls):
    def test_said_in_one_turn_heard_in_a_later_one(self):
        hall = hall_of(PAIR, "set x mark", "swap heard (bundle x)", "end heard")
        self.turned(hall, 0, 0)
        self.stands(hall, 0, "said", 1, (("x", 1),))
        self.has_done(hall, 0, (0, 1))
        self.lies(hall, 1, ((1,),))
        self.lies(hall, 0, ())
        self.turned(hall, 1)
        self.lies(hall, 1, ((1,),))
        self.turned(hall, 1)
        # A word lay here already when it said its own: it is heard in a later turn all the same.
        self.stands(hall, 1, "said", 1, (("x", 2),))
        self.lies(hall, 0, ((2,),))
        self.lies(hall, 1, ((1,),))
        self.turned(hall, 1)
        self.stands(hall, 1, "goes", 2, (("heard", ((0, (1,)),)), ("x", 2)))
        self.lies(hall, 1, ())
        self.lies(hall, 0, ((2,),))
        self.turned(hall, 0)
        self.stands(hall, 0, "goes", 2, (("heard", ((0, (2,)),)), ("x", 1)))
        self.has_done(hall, 0, (0, 1), (1, ((0, (2,)),)))
        self.lies(hall, 0, ())
        self.turned(hall, 0, 1)
        self.stands(hall, 0, "ended", None, (("heard", ((0, (2,)),)), ("x", 1)), ((0, (2,)),))

    def test_a_hand_waits(self):
        hall = hall_of(PAIR, "swap x mark", "end x")
        self.turned(hall, *[0] * 20)
        self.stands(hall, 0, "said", 0)
        self.has_done(hall, 0)
        # It says once, however often it has a turn.
        self.lies(hall, 1, (1,))

    def test_a_hand_waits_till_a_word_lies_at_each_peg(self):
        web = line(3)
        hall = hall_of(web, "swap x mark", "end x")
        self.turned(hall, 1, 1, 0, 1, 1)
        self.stands(hall, 1, "said", 0)
        self.lies(hall, 1, (0,), ())
        self.turned(hall, 2, 1)
        self.stands(hall, 1, "goes", 1, (("x", ((0, 0), (0, 2))),))
        self.lies(hall, 1, (), ())

    def test_the_peg_to_which_it_leads_stands_with_the_word(self):
        hall = hall_of(star(4), "swap x pegs", "end x")
        self.turned(hall, 4, 3, 2, 1, 0, 0, 1, 2, 3, 4)
        self.stands(hall, 0, "goes", 1, (("x", ((0, 1), (0, 1), (0, 1), (0, 1))),))
        for arm in range(4):
            self.stands(hall, arm + 1, "goes", 1, (("x", ((arm, 4),)),))

    def test_words_lie_in_the_order_in_which_they_were_said(self):
        web = ((0, ((1, 0),)), (1, ((0, 0),)))
        hall = hall_of(web, "set i (plus i 1)", "test same mark 1 7", "swap x (bundle i)", "set i (plus i 1)",
                       "swap y (bundle i)", "end (bundle x y)", "end 0",
                       "swap x [1]", "swap y [2]", "swap z [3]", "swap u [4]")
        self.turned(hall, 1, 1, 1)
        self.lies(hall, 0, ((1,),))
        self.turned(hall, 0, 0, 0)
        self.lies(hall, 1, ((1,),))
        self.turned(hall, 1, 1)
        self.lies(hall, 0, ((1,), (2,)))
        self.turned(hall, 0)
        self.stands(hall, 0, "goes", 3, (("i", 1), ("x", ((0, (1,)),))))
        self.lies(hall, 0, ((2,),))
        self.turned(hall, 0, 0)
        self.lies(hall, 1, ((2,),))
        self.turned(hall, 1, 1)
        self.lies(hall, 0, ((2,), (3,)))
        self.turned(hall, 0, 0)
        self.stands(hall, 0, "ended", None, (("i", 2), ("x", ((0, (1,)),)), ("y", ((0, (2,)),))),
                    (((0, (1,)),), ((0, (2,)),)))
        self.lies(hall, 0, ((3,),))

    def test_two_words_at_one_peg_are_taken_one_at_a_time(self):
        # Hand 1 has heard and says again while hand 0 still waits for its turn.
        hall = hall_of(line(2), "swap x (bundle mark 1)", "swap y (bundle mark 2)", "end (bundle x y)")
        self.turned(hall, 0, 1, 1, 1)
        self.lies(hall, 0, ((1, 1), (1, 2)))
        self.lies(hall, 1, ())
        self.turned(hall, 0, 0)
        self.lies(hall, 0, ((1, 2),))
        self.lies(hall, 1, ((0, 2),))
        self.turned(hall, 0, 0)
        self.stands(hall, 0, "ended", None, (("x", ((0, (1, 1)),)), ("y", ((0, (1, 2)),))),
                    (((0, (1, 1)),), ((0, (1, 2)),)))

    def test_words_said_to_a_hand_that_has_ended_lie_there(self):
        hall = hall_of(PAIR, "test same mark 1 3", "swap x mark", "end x", "end 5")
        self.turned(hall, 0, 0, 1, 1, 1, 1)
        self.stands(hall, 0, "ended", None, (), 5)
        self.lies(hall, 0, (2,))
        self.stands(hall, 1, "said", 1)

    def test_words_said_to_a_hand_that_has_burst_lie_there(self):
        hall = Hall(PAIR, (("test", "same", ("mark",), ("number", 1), 2), ("swap", "x", ("mark",)),
                           ("set", "y", ("value", wide(601)))))
        self.turned(hall, 0, 0, 1, 1, 1, 0)
        self.stands(hall, 0, "burst", 2)
        self.lies(hall, 0, (2,))
        self.stands(hall, 1, "said", 1)

    def test_words_said_to_a_hand_that_ends_later(self):
        hall = hall_of(PAIR, "test same mark 1 3", "swap x mark", "end x", "end 5")
        self.turned(hall, 1, 1, 0, 0, 1)
        self.stands(hall, 0, "ended", None, (), 5)
        self.lies(hall, 0, (2,))

    def test_a_hand_without_pegs(self):
        hall = hall_of(ALONE, "swap x mark", "swap y x", "end y")
        self.turned(hall, 0)
        self.stands(hall, 0, "said", 0)
        self.has_done(hall, 0)
        self.turned(hall, 0)
        self.stands(hall, 0, "goes", 1, (("x", ()),))
        self.turned(hall, 0, 0, 0)
        self.stands(hall, 0, "ended", None, (("x", ()), ("y", ())), ())
        self.has_done(hall, 0, (0, ()), (1, ()), (2, ()))

    def test_a_peg_tied_to_itself(self):
        hall = hall_of(SELF_TIED, "swap x (bundle mark)", "end x")
        self.turned(hall, 0)
        self.lies(hall, 0, ((3,),))
        self.turned(hall, 0)
        self.stands(hall, 0, "goes", 1, (("x", ((0, (3,)),)),))
        self.lies(hall, 0, ())

    def test_two_pegs_of_one_hand_tied(self):
        hall = hall_of(OWN_TIE, "swap x pegs", "end x")
        self.turned(hall, 0)
        self.lies(hall, 0, (2,), (2,))
        self.turned(hall, 0)
        self.stands(hall, 0, "goes", 1, (("x", ((1, 2), (0, 2))),))
        hall = hall_of(CROSSED, "swap x pegs", "end x")
        self.turned(hall, 0, 0)
        self.stands(hall, 0, "goes", 1, (("x", ((2, 4), (3, 4), (0, 4), (1, 4))),))

    def test_a_swap_to_the_same_name_as_its_term(self):
        hall = hall_of(PAIR, "set x mark", "swap x (bundle x)", "swap x x", "end x")
        self.turned(hall, *[0, 1] * 8)
        # What comes back is what the other one had heard of it.
        self.stands(hall, 0, "ended", None, (("x", ((0, ((0, (1,)),)),)),), ((0, ((0, (1,)),)),))
        self.has_done(hall, 0, (0, 1), (1, ((0, (2,)),)), (2, ((0, ((0, (1,)),)),)), (3, ((0, ((0, (1,)),)),)))

    def test_the_word_is_worked_out_when_it_is_said(self):
        hall = hall_of(ring(1), "swap x x", "swap x x", "end x")
        self.turned(hall, 0)
        self.lies(hall, 0, (0,), (0,))
        self.turned(hall, 0, 0)
        first = ((1, 0), (0, 0))
        self.lies(hall, 0, (first,), (first,))


class Bursts(Halls):
    def hall_of_rows(self, web, *rows):
        return Hall(web, rows)

    def test_at_set_at_test_and_at_end(self):
        for bad in (("value", wide(601)), ("value", nested(41)), ("many", ("value", wide(601)))):
            for row in (("set", "y", bad), ("end", bad), ("test", "same", bad, bad, 0),
                        ("test", "ahead", ("mark",), bad, 0), ("test", "ahead", bad, ("mark",), 0)):
                hall = self.hall_of_rows(PAIR, ("set", "x", ("mark",)), row, ("end", ("number", 1)))
                self.turned(hall, 0, 0)
                self.stands(hall, 0, "burst", 1, (("x", 1),))
                self.has_done(hall, 0, (0, 1))
                self.turned(hall, 0, 0, 0)
                self.stands(hall, 0, "burst", 1, (("x", 1),))
                self.has_done(hall, 0, (0, 1))
                self.stands(hall, 1, "goes", 0)

    def test_what_is_just_not_too_large(self):
        for good in (wide(600), nested(40), nested(40, 7)):
            hall = self.hall_of_rows(ALONE, ("set", "x", ("value", good)), ("test", "same", ("name", "x"),
                                     ("value", good), 2), ("end", ("name", "x")))
            self.turned(hall, 0, 0, 0)
            self.stands(hall, 0, "ended", None, (("x", good),), good)

    def test_at_saying_nothing_is_said(self):
        for bad in (("value", wide(601)), ("value", nested(41)), ("many", ("value", nested(41)))):
            hall = self.hall_of_rows(PAIR, ("swap", "x", bad), ("end", ("number", 1)))
            self.turned(hall, 0)
            self.stands(hall, 0, "burst", 0)
            self.lies(hall, 1, ())
            self.turned(hall, 0, 0)
            self.stands(hall, 0, "burst", 0)
            self.lies(hall, 1, ())
            self.has_done(hall, 0)

    def test_at_hearing_no_words_are_taken(self):
        # The word fits, but with the peg and two bundles around it what is heard does not.
        for word in (wide(598), wide(600), nested(39), nested(40)):
            hall = self.hall_of_rows(PAIR, ("swap", "x", ("value", word)), ("end", ("number", 1)))
            self.turned(hall, 0, 1)
            self.stands(hall, 0, "said", 0)
            self.lies(hall, 0, (word,))
            self.turned(hall, 0)
            self.stands(hall, 0, "burst", 0)
            self.lies(hall, 0, (word,))
            self.has_done(hall, 0)
            self.turned(hall, 0, 1)
            self.stands(hall, 0, "burst", 0)
            self.lies(hall, 0, (word,))

    def test_what_is_heard_is_just_not_too_large(self):
        for word in (wide(597), nested(38), nested(38, 5)):
            hall = self.hall_of_rows(PAIR, ("swap", "x", ("value", word)), ("end", ("number", 1)))
            self.turned(hall, 0, 1, 0)
            self.stands(hall, 0, "goes", 1, (("x", ((0, word),)),))
            self.lies(hall, 0, ())

    def test_what_is_heard_by_four_pegs(self):
        # 1 + 4 * (2 + 147) are 597 parts, 1 + 4 * (2 + 148) are 601.
        for many, state in ((147, "goes"), (148, "burst")):
            hall = self.hall_of_rows(CROSSED, ("swap", "x", ("value", wide(many))), ("end", ("number", 1)))
            self.turned(hall, 0, 0)
            self.assertEqual(hall.told(0)[0], state)
            self.assertEqual([len(hall.lying(0, peg)) for peg in range(4)], [1 if state == "burst" else 0] * 4)

    def test_a_hand_that_waits_does_not_burst(self):
        hall = self.hall_of_rows(line(3), ("swap", "x", ("value", wide(598))), ("end", ("number", 1)))
        self.turned(hall, 1, 0, 1, 1)
        self.stands(hall, 1, "said", 0)
        self.turned(hall, 2, 1)
        self.stands(hall, 1, "burst", 0)
        self.lies(hall, 1, (wide(598),), (wide(598),))

    def test_words_lie_behind_a_burst_too(self):
        hall = self.hall_of_rows(PAIR, ("test", "same", ("mark",), ("number", 1), 3), ("swap", "x", ("mark",)),
                                 ("go", 1), ("swap", "x", ("value", wide(600))), ("swap", "x", ("value", wide(601))))
        self.turned(hall, 1, 1, 0, 0, 1)
        self.stands(hall, 1, "burst", 1)
        self.lies(hall, 1, (wide(600),))

    def test_growing_words_burst_in_the_end(self):
        hall = hall_of(OWN_TIE, "swap x (bundle x x)", "go 0")
        self.turned(hall, *[0] * 100)
        state, row, names, end = hall.told(0)
        self.assertEqual((state, row, end), ("burst", 0, None))


class Told(Halls):
    def test_names_as_python_sorts_them(self):
        names = ("zz", "b", "ab", "a", "abcdef", "ba", "z")
        hall = hall_of(ALONE, *[f"set {name} {at}" for at, name in enumerate(names)], "go 7")
        self.turned(hall, *[0] * 7)
        self.stands(hall, 0, "goes", 7, tuple(sorted((name, at) for at, name in enumerate(names))))

    def test_only_names_that_rows_have_given(self):
        hall = hall_of(ALONE, "set x y", "test same z u 2", "end v")
        self.turned(hall, 0, 0)
        self.stands(hall, 0, "goes", 2, (("x", 0),))

    def test_done_is_a_new_list_at_each_asking(self):
        hall = hall_of(ALONE, "set x 1", "go 0")
        self.turned(hall, 0, 0, 0)
        first = hall.done(0)
        first.append("spoilt")
        first.reverse()
        second = hall.done(0)
        self.assertEqual(second, [(0, 1), (1, 0), (0, 1)])
        self.turned(hall, 0)
        self.assertEqual(second, [(0, 1), (1, 0), (0, 1)])
        self.has_done(hall, 0, (0, 1), (1, 0), (0, 1), (1, 0))

    def test_what_was_told_stays_behind_later_turns(self):
        hall = hall_of(PAIR, "set x 1", "swap x 2", "set y 3")
        told, lying = hall.told(0), hall.lying(1, 0)
        self.turned(hall, 0, 0)
        self.assertEqual((told, lying), (("goes", 0, (), None), ()))
        self.stands(hall, 0, "said", 1, (("x", 1),))
        self.lies(hall, 1, (2,))

    def test_asking_changes_nothing(self):
        hall = hall_of(PAIR, "set x 1", "swap x 2", "set y 3")
        for hand in (0, 0, 1, 0, 1, 1, 1, 0, 1, 0):
            self.turned(hall, hand)
            told = [(hall.told(each), hall.done(each), hall.lying(each, 0)) for each in (0, 1)]
            self.assertEqual([(hall.told(each), hall.done(each), hall.lying(each, 0)) for each in (0, 1)], told)

    def test_two_halls_of_the_same_beside_one_another(self):
        program = read_program("set x mark\nswap y x\nend y")
        one, other = Hall(PAIR, program), Hall(PAIR, program)
        self.turned(one, 0, 0, 1, 1)
        self.stands(other, 0, "goes", 0)
        self.lies(other, 1, ())
        self.turned(other, 1)
        self.stands(one, 1, "said", 1, (("x", 2),))
        self.stands(other, 1, "goes", 1, (("x", 2),))
        self.turned(one, 1, 1)
        self.stands(one, 1, "ended", None, (("x", 2), ("y", ((0, 1),))), ((0, 1),))
        self.has_done(other, 1, (0, 2))


class Twin:
    """A hall written anew from the words of points 23, 26 and 27: hands are loops that stop at each turn's end."""

    def __init__(self, web, program, value_of):
        self.web, self.program, self.value_of = web, program, value_of
        self.words = {(hand, peg): [] for hand, (mark, pegs) in enumerate(web) for peg in range(len(pegs))}
        self.states = [["goes", 0, {}, None] for hand in web]
        self.doings = [[] for hand in web]
        self.loops = [self.loop(hand) for hand in range(len(web))]

    def turn(self, hand):
        next(self.loops[hand], None)

    def told(self, hand):
        state, row, names, end = self.states[hand]
        return (state, row, tuple((name, names[name]) for name in sorted(names)), end)

    def loop(self, hand):
        mark, pegs = self.web[hand]
        at = self.states[hand]
        while at[1] is not None:
            row = self.program[at[1]]
            values = [self.value_of(term, mark, len(pegs), at[2]) for term in row if isinstance(term, tuple)]
            if any(too_large(value) for value in values):
                at[0] = "burst"
                return
            to, noted = at[1] + 1, values[0] if values else 0
            if row[0] == "swap":
                for end in pegs:
                    self.words[end].append(values[0])
                at[0] = "said"
                yield
                while any(not self.words[(hand, peg)] for peg in range(len(pegs))):
                    yield
                noted = tuple((pegs[peg][1], self.words[(hand, peg)][0]) for peg in range(len(pegs)))
                if too_large(noted):
                    at[0] = "burst"
                    return
                for peg in range(len(pegs)):
                    del self.words[(hand, peg)][0]
                at[0] = "goes"
            if row[0] in ("set", "swap"):
                at[2][row[1]] = noted
            if row[0] == "go":
                to = row[1]
            if row[0] == "test":
                order = order_of(*values)
                noted = int(order == 0 if row[1] == "same" else order < 0)
                to = row[4] if noted else to
            self.doings[hand].append((at[1], noted))
            at[1] = to
            if row[0] == "end" or to == len(self.program):
                at[0], at[1], at[3] = "ended", None, noted if row[0] == "end" else 0
            yield


def too_large(value):
    """Whether a hand bursts by this value."""
    layer, parts, layers = [value], 0, 0
    while layer:
        parts += len(layer)
        layers += 1
        layer = [thing for each in layer if isinstance(each, tuple) for thing in each]
    return parts > 600 or layers > 40


class AsTheTwinTells(Halls):
    def test_drawn_programs_on_drawn_webs(self):
        chance = random.Random(26)
        seen = set()
        for program in drawn_programs(2627, 700, 3):
            if chance.random() < 0.5:
                # Most programs end early: these go on till a value is too large, or till the last turn.
                program = tuple(row for row in program if row[0] in ("set", "swap")) + (("go", 0),)
            web = drawn_web(chance, chance.randint(1, 4))
            hall, twin = Hall(web, program), Twin(web, program, reckoned_or_large)
            for hand in drawn_order(chance, len(web), 60):
                self.turned(hall, hand)
                twin.turn(hand)
                self.assertEqual(hall.told(hand), twin.told(hand), (web, program))
                seen.add(hall.told(hand)[0])
            for hand, (mark, pegs) in enumerate(web):
                self.assertEqual(hall.told(hand), twin.told(hand))
                self.assertEqual(hall.done(hand), twin.doings[hand])
                self.lies(hall, hand, *[tuple(twin.words[(hand, peg)]) for peg in range(len(pegs))])
        self.assertEqual(seen, {"goes", "said", "ended", "burst"})


def reckoned_or_large(term, mark, pegs, names):
    """What a term comes to, or some value that is too large where a term in it comes to one."""
    for inner in term[1:]:
        if isinstance(inner, tuple) and term[0] != "value":
            if too_large(reckoned_or_large(inner, mark, pegs, names)):
                return wide(601)
    return reckoned(term, mark, pegs, names)


if __name__ == "__main__":
    unittest.main()
