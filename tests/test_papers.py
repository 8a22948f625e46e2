"""Papers looked at and told: points 34 and 35."""

import itertools
import unittest

from drawn import drawn_programs, drawn_webs
from namelesshall.beneath import beneath, is_own
from namelesshall.changed import marked, renamed
from namelesshall.leadings import is_leading, leadings
from namelesshall.lesser import lesser_webs, partings
from namelesshall.making import first_program
from namelesshall.papers import holds, paper_of
from namelesshall.programtexts import read_program
from namelesshall.runs import in_step
from samples import (ALONE, MIXED, OWN_TIE, SELF_TIED, covers, is_told, late_row, lifted, line, renamings, ring,
                     small_webs)
from test_halls import PAIR
from test_making import covering, structured
from test_terms import wide

BY_MARK = "test same mark 1 2\nend 0\nend 1"


def first(*rows):
    """The paper with the program of these rows of text."""
    return ("first", read_program("\n".join(rows)))


class Papers(unittest.TestCase):
    def holds(self, web, paper):
        self.assertIs(holds(web, paper), True, (web, paper))

    def fails(self, web, paper):
        self.assertIs(holds(web, paper), False, (web, paper))


class Led(Papers):
    def test_the_least_web(self):
        for web in covering() + [ring(8), ring(7)]:
            self.holds(web, ("led",) + beneath(web))

    def test_each_lesser_web(self):
        seen = 0
        for web in covering() + [ring(4), ring(6)]:
            for lesser, parting in lesser_webs(web):
                if len(lesser) < len(web):
                    seen += 1
                    self.holds(web, ("led", lesser, parting))
        self.assertGreater(seen, len(covering()))

    def test_any_leading_to_any_lesser_web(self):
        for web, lesser, leading in covers():
            if len(web) > 8:
                continue
            for row in renamings(len(lesser)):
                other = renamed(lesser, row)
                for each in leadings(web, other):
                    self.holds(web, ("led", other, each))

    def test_a_lesser_that_is_no_web(self):
        good, leading = beneath(ring(4))
        self.assertEqual((good, leading), (OWN_TIE, (0, 0, 0, 0)))
        self.holds(ring(4), ("led", good, leading))
        for bad in ((), ((10, good[0][1]),), ((-1, good[0][1]),), ((0, ((0, 1), (0, 1))),), ((0, ((0, 1), (1, 0))),),
                    ((0, ((0, 1), (0, 2))),), ((0, ((0, 1), (-1, 0))),), ((0, ((0, 1), (0, -2))),),
                    ((0, ((0, 1), (0, 0))), (0, ())), ((0, ((0, 1), (0, 0))), (0, ((1, 1), (1, 0))))):
            self.fails(ring(4), ("led", bad, leading))
            self.fails(ring(4), ("led", bad, ()))
            self.fails(ring(4), ("led", bad, (0, 0, 1, 1)))

    def test_a_lesser_that_is_in_two_pieces(self):
        # The row agrees with all ties of the web, but hand 1 of the other one is apart.
        lesser = ((0, ((0, 1), (0, 0))), (5, ((1, 0),)))
        self.assertTrue(is_leading(ring(3), lesser, (0, 0, 0)))
        self.fails(ring(3), ("led", lesser, (0, 0, 0)))

    def test_a_lesser_with_as_many_hands(self):
        for web in (ALONE, SELF_TIED, MIXED, ring(3), ring(8), line(4)):
            same = tuple(range(len(web)))
            self.assertTrue(is_leading(web, web, same))
            self.fails(web, ("led", web, same))
        self.fails(ring(4), ("led", ring(4), (1, 2, 3, 0)))

    def test_a_lesser_with_more_hands(self):
        self.fails(ring(2), ("led", ring(4), (0, 1)))
        self.fails(OWN_TIE, ("led", ring(2), (0,)))
        self.fails(ring(3), ("led", ring(9), (0, 1, 2)))

    def test_a_lesser_with_more_than_8_hands_or_4_pegs(self):
        self.fails(ring(8), ("led", ring(9), (0,) * 8))
        self.fails(ring(8), ("led", ring(99), tuple(range(8))))
        # Else it would hold, were so many hands handed in.
        self.fails(ring(18), ("led", ring(9), tuple(range(9)) * 2))
        five = ((0, tuple((0, peg) for peg in range(5))),)
        self.fails(ring(2), ("led", five, (0, 0)))
        self.fails(lifted(five, 2, {(0, 0): (1, 0)})[0], ("led", five, (0, 0)))

    def test_a_leading_that_is_none(self):
        web = ring(6)
        for many in (1, 2, 3):
            right = leadings(web, ring(many))
            for row in itertools.product(range(many), repeat=6):
                self.assertIs(holds(web, ("led", ring(many), row)), row in right)
        self.fails(ring(6), ("led", ring(4), (0, 1, 2, 3, 0, 1)))
        self.fails(ring(4), ("led", marked(ring(2), (0,), 3), (0, 1, 0, 1)))

    def test_a_leading_of_another_length(self):
        for row in ((), (0,), (0, 0, 0), (0, 0, 0, 0, 0), (0,) * 8):
            self.fails(ring(4), ("led", OWN_TIE, row))
        for row in ((0, 1), (0, 1, 0), (0, 1, 0, 1, 0), (0, 1, 0, 1, 0, 1)):
            self.fails(ring(4), ("led", ring(2), row))

    def test_a_number_of_no_hand(self):
        for row in ((0, 0, 0, 1), (1, 1, 1, 1), (-1, -1, -1, -1), (0, 0, 0, -1), (99, 0, 0, 0), (0, 10 ** 30, 0, 0)):
            self.fails(ring(4), ("led", OWN_TIE, row))
        for row in ((0, -1, 0, -1), (-2, -1, -2, -1), (0, 2, 0, 2), (2, 1, 2, 1)):
            self.fails(ring(4), ("led", ring(2), row))


class First(Papers):
    def test_the_made_program_on_webs_that_are_their_own_least(self):
        for web in structured() + small_webs()[::3]:
            paper = ("first", first_program(len(web)))
            if is_own(web):
                self.holds(web, paper)
            else:
                self.fails(web, paper)

    def test_a_program_by_marks(self):
        self.holds(PAIR, first(BY_MARK))
        self.holds(((1, ()),), first(BY_MARK))
        self.holds(ALONE, first("end 1"))
        self.holds(line(8), first(BY_MARK))
        self.fails(((2, ()),), first(BY_MARK))

    def test_a_program_that_is_refused(self):
        end = ("end", ("number", 1))
        self.holds(ALONE, ("first", (end,)))
        for bad in ((), (end, ("go", 2)), (end, ("set", "X", ("mark",))), (end, ("set", "abcdefg", ("mark",))),
                    (end, ("end", ("number", -1))), (end, ("end", ("value", (-1,)))),
                    (end, ("end", ("bundle",) + (("mark",),) * 5)), (end, ("swap", "go", ("mark",))),
                    (end, ("test", "same", ("mark",), ("mark",), -1)), (end, ("end", ("name", "")))):
            self.fails(ALONE, ("first", bad))
            self.fails(PAIR, ("first", bad))

    def test_over_within_800_rounds(self):
        # 99 counts of eight rounds each, then the sets of j, then the end.
        counting = ["set i (plus i 1)", "go 2", "go 3", "go 4", "go 5", "go 6", "go 7", "test ahead i 99 0"]
        for rounds, right in ((799, True), (800, True), (801, False), (802, False)):
            program = read_program("\n".join(counting + ["set j 1"] * (rounds - 793) + ["end 1"]))
            self.assertEqual(in_step(ALONE, program, 2000), ("over", (1,), rounds))
            self.assertIs(holds(ALONE, ("first", program)), right)

    def test_a_program_that_goes_on_for_ever(self):
        self.fails(ALONE, first("go 0"))
        self.fails(PAIR, first("test same mark 2 0", "end 1"))
        self.fails(PAIR, first("test same mark 1 2", "go 1", "end 1"))

    def test_a_program_that_is_stuck(self):
        self.fails(PAIR, first("test same mark 1 2", "swap x 1", "end 1"))
        self.fails(PAIR, first("swap x mark", "test same mark 1 3", "swap x 1", "end 1"))

    def test_a_program_in_which_a_hand_bursts(self):
        rows = (("test", "same", ("mark",), ("number", 1), 2), ("end", ("value", wide(601))), ("end", ("number", 1)))
        self.assertEqual(in_step(PAIR, rows, 800)[:2], ("over", (1, None)))
        self.fails(PAIR, ("first", rows))
        self.fails(ALONE, ("first", (("end", ("value", wide(601))),)))

    def test_two_hands_that_end_with_1(self):
        self.fails(PAIR, first("end 1"))
        self.fails(ring(3), first("end 1"))
        self.fails(line(3), first("test ahead mark 2 2", "end 0", "end 1"))

    def test_one_ends_with_1_and_another_with_2(self):
        self.fails(PAIR, first("test same mark 1 2", "end 2", "end 1"))
        self.fails(line(3), first("end mark"))
        for bad in ("[]", "[0]", "[1]", "2", "99", "(bundle 0)"):
            self.fails(PAIR, first("test same mark 1 2", f"end {bad}", "end 1"))
            self.fails(PAIR, first("test same mark 1 2", "end 0", f"end {bad}"))

    def test_none_ends_with_1(self):
        self.fails(PAIR, first("end 0"))
        self.fails(ALONE, first("end 0"))
        self.fails(ALONE, first("set x 1"))
        self.fails(PAIR, first("end 2"))
        self.fails(ALONE, first("end [1]"))

    def test_the_end_behind_the_last_row_is_0(self):
        self.holds(PAIR, first("test same mark 1 2", "go 3", "end 1", "set x 1"))

    def test_whole_numbers_of_any_size(self):
        end, long = ("end", ("number", 10 ** 2000)), ("number", 10 ** 2000)
        self.fails(ALONE, ("first", (end,)))
        self.holds(ALONE, ("first", (("test", "ahead", ("mark",), long, 2), end, ("end", ("number", 1)))))


class Told(Papers):
    def told(self, web):
        """A paper that holds, of the sort that is due; that of the other sort does not."""
        paper = paper_of(web)
        self.assertTrue(is_told(paper))
        self.holds(web, paper)
        if is_own(web):
            self.assertEqual(paper, ("first", first_program(len(web))))
        else:
            self.assertEqual(paper, ("led",) + beneath(web))
            self.fails(web, ("first", first_program(len(web))))
        return paper[0]

    def test_structured_and_small_webs(self):
        seen = [self.told(web) for web in structured() + covering() + small_webs()]
        self.assertGreater(seen.count("first"), 50)
        self.assertGreater(seen.count("led"), 50)

    def test_drawn_webs(self):
        seen = []
        for hands in range(1, 7):
            seen += [self.told(web) for web in drawn_webs(350 + hands, hands, 40)]
            seen += [self.told(web) for web in drawn_webs(360 + hands, hands, 20, most_pegs=2, marks=(0,))]
        self.assertGreater(seen.count("first"), 50)
        self.assertGreater(seen.count("led"), 10)

    def test_where_one_can_be_first_no_lesser_web_holds(self):
        for web in small_webs()[::2] + structured()[::3]:
            if not is_own(web) or len(web) > 5:
                continue
            for lesser, parting in all_by_partings(web):
                self.fails(web, ("led", lesser, parting))

    def test_where_a_lesser_web_holds_no_program_does(self):
        programs = drawn_programs(35, 15) + [first_program(n) for n in range(1, 7)]
        programs += [read_program(BY_MARK), read_program("end 1"), read_program("test same pegs 2 2\nend 0\nend 1")]
        eight = lifted(late_row(4), 2, {(0, 0): (1, 0)})[0]
        for web in covering() + [ring(8), eight]:
            self.holds(web, ("led",) + beneath(web))
            for program in programs:
                self.fails(web, ("first", program))


def all_by_partings(web):
    """Webs of fewer hands, with the first hand of each number of a parting, whether it is led so or not."""
    pairs = []
    for parting in partings(len(web)):
        if max(parting) + 1 < len(web):
            hands = [web[parting.index(number)] for number in range(max(parting) + 1)]
            lesser = tuple((mark, tuple((parting[near], place) for near, place in pegs)) for mark, pegs in hands)
            pairs.append((lesser, parting))
    return pairs


if __name__ == "__main__":
    unittest.main()
