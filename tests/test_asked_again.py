"""Point 2: nothing handed in is changed, and the same is told to whoever asks again."""

import unittest

from drawn import drawn_programs
from namelesshall.above import above
from namelesshall.answering import answering
from namelesshall.beneath import beneath, is_own, same
from namelesshall.changed import exchanged, marked, renamed
from namelesshall.desk import Desk
from namelesshall.errors import HallError, NoProgram
from namelesshall.exchanges import fewest, none_fewer
from namelesshall.halls import Hall
from namelesshall.leadings import followed, is_leading, leadings
from namelesshall.lesser import by_parting, lesser_webs
from namelesshall.making import first_program
from namelesshall.numbers import numbers_at, numbers_of_two, stays_from
from namelesshall.papers import holds, paper_of
from namelesshall.parting import parted
from namelesshall.programs import look_program
from namelesshall.programtexts import read_program, show_program
from namelesshall.runs import by_order, in_step
from namelesshall.stories import story
from namelesshall.together import together
from namelesshall.values import is_ahead, parts, show_value
from samples import MIXED, SMALL, covers, eight_handed, is_told, ring, small_webs

WEBS = SMALL + small_webs()[::8] + eight_handed()
PAIRS = [(web, lesser) for web, lesser, row in covers()] + list(zip(WEBS, WEBS[1:] + WEBS[:1]))


def calls_of_one():
    """Calls about one web, function and arguments."""
    calls = []
    for web in WEBS:
        last = len(web) - 1
        calls.append((stays_from, web))
        calls.append((beneath, web))
        calls.append((is_own, web))
        calls.append((by_parting, web, tuple(range(len(web)))))
        if len(web) <= 6:
            calls.append((lesser_webs, web))
        calls.append((renamed, web, tuple(range(last, -1, -1))))
        calls.append((marked, web, (last,), 3))
        for turn in (0, 1, 3):
            calls.append((story, web, last, turn))
        for turn in (0, 1, 20):
            calls.append((numbers_at, web, turn))
        for sheets in (1, 2, 4):
            if len(web) * sheets <= 16:
                calls.append((above, web, sheets))
        if len(web[last][1]) > 1:
            calls.append((exchanged, web, last, 1, 0))
    return calls


def calls_of_two():
    """Calls about two webs, or about what was told of them."""
    calls = []
    for one, other in PAIRS:
        calls.append((leadings, one, other))
        calls.append((is_leading, one, other, (0,) * len(one)))
        calls.append((numbers_of_two, one, other, 2))
        calls.append((parted, one, len(one) - 1, other, 0))
        calls.append((parted, one, 0, one, len(one) - 1))
        calls.append((same, one, other))
        calls.append((same, one, renamed(one, tuple(range(len(one)))[::-1])))
        calls.append((together, one, other))
    for web, lesser, row in covers():
        calls.append((is_leading, web, lesser, row))
        calls.append((followed, row, tuple(range(len(lesser)))))
    return calls


VALUES = [0, 9999, (), (1, (2, 3), ()), ((), ((), (7,))), (5,) * 599, 10 ** 999]
PROGRAMS = [
    (), (("end", ("mark",)),), (("set", "x", ("value", (1, (2,)))), ("go", 0)), (("go", 1),),
    (("swap", "x", ("bundle", ("name", "x"), ("pegs",))), ("test", "same", ("name", "go"), ("mark",), 0)),
]


def refusal_of(program):
    """True, or the row at which the program is refused."""
    try:
        return look_program(program)
    except NoProgram as refusal:
        return [refusal.row]


def calls_of_values():
    """Calls about values and programs."""
    calls = [(refusal_of, program) for program in PROGRAMS]
    for value in VALUES:
        calls.append((parts, value))
        calls.append((show_value, value))
        calls.extend((is_ahead, value, other) for other in VALUES)
    return calls


TEXTS = ["", "go 0", "end (bundle 1 [2 []])\nend x", "set x 1\nswap h x\ntest ahead h [1 2] 0", "go 1", "go 0\n",
         "end (plus mark pegs)\ngo", "set go 1"]


def read_or_refused(text):
    """The program of this text, or by what it is refused."""
    try:
        return read_program(text)
    except HallError as refusal:
        return (type(refusal).__name__, refusal.row)


def hall_told(web, program, order):
    """All that a hall tells of its hands behind these turns; the hall is a new one at each asking."""
    hall = Hall(web, program)
    for hand in order:
        hall.turn(hand)
    return [
        (hall.told(hand), tuple(hall.done(hand)), tuple(hall.lying(hand, peg) for peg in range(len(pegs))))
        for hand, (mark, pegs) in enumerate(web)
    ]


def calls_of_programs():
    """Calls about programs, their texts and their runs."""
    calls = [(read_or_refused, text) for text in TEXTS] + [(first_program, n) for n in range(1, 7)]
    programs = [program for program in PROGRAMS if refusal_of(program) is True]
    programs += [first_program(n) for n in (1, 3, 6)] + drawn_programs(2, 10)
    for program in programs:
        calls.append((show_program, program))
        for web in WEBS[::6]:
            order = (tuple(range(len(web))) + (0, 0)) * 4
            calls.append((by_order, web, program, order))
            calls.append((in_step, web, program, 9))
            calls.append((hall_told, web, program, order))
    return calls


DESK_ROWS = ("web a hand 1 1.0 ; hand 1 0.0", "program p swap x mark ; end x", "text a", "least a", "keep b a", "text",
             "parted a 0 b 0", "run p a 9", "web a hand", "first a", "apart a b", "text c", "least p", "program a go 1")


def desk_told(rows):
    """What a new desk tells of these rows, one after the other, or by what each is refused."""
    desk = Desk()
    told = []
    for row in rows:
        try:
            told.append(desk.say(row))
        except HallError as refusal:
            told.append((type(refusal).__name__, tuple(sorted(vars(refusal).items()))))
    return told


def calls_of_papers():
    """Calls about lists of webs, papers, exchanges and the desk."""
    calls = [(desk_told, DESK_ROWS), (desk_told, DESK_ROWS[::-1]), (desk_told, DESK_ROWS * 2)]
    few = [web for web in WEBS if len(web) <= 5]
    for one, other in zip(few, few[3:] + few[:3]):
        calls.append((answering, (one, one), (other,)))
        calls.append((answering, (one,), (other, one)))
    for web in [web for web in WEBS if len(web) <= 6]:
        paper = paper_of(web)
        calls.append((paper_of, web))
        calls.append((holds, web, paper))
        calls.append((holds, web, ("led", web, (0,) * len(web))))
        calls.append((holds, web, ("first", (("go", 1),))))
    for web in [web for web in few if all(len(pegs) <= 3 for mark, pegs in web)]:
        calls.append((fewest, web))
        calls.append((none_fewer, web, 2))
    return calls


CALLS = calls_of_one() + calls_of_two() + calls_of_values() + calls_of_programs() + calls_of_papers()


def spoil(told):
    """Changes what was told as far as it can be changed."""
    if type(told) is list:
        told.append("spoilt")
        told.reverse()


class AskedAgain(unittest.TestCase):
    def test_nothing_handed_in_is_changed(self):
        for function, *arguments in CALLS:
            ahead = repr(arguments)
            function(*arguments)
            self.assertEqual(repr(arguments), ahead, function.__name__)

    def test_the_same_is_told_with_other_calls_between(self):
        kept = []
        for function, *arguments in CALLS:
            told = function(*arguments)
            kept.append(repr(told))
            spoil(told)
        for (function, *arguments), first in reversed(list(zip(CALLS, kept))):
            self.assertEqual(repr(function(*arguments)), first, function.__name__)

    def test_what_is_told_is_plain(self):
        for function, *arguments in CALLS:
            self.assertTrue(is_told(function(*arguments)), function.__name__)

    def test_every_list_is_a_new_one(self):
        for function, *arguments in CALLS:
            first, second = function(*arguments), function(*arguments)
            if type(first) is list:
                self.assertIsNot(first, second, function.__name__)


class HandedOn(unittest.TestCase):
    def test_webs_told_are_handed_on(self):
        web = exchanged(marked(renamed(MIXED, (2, 0, 1)), (0,), 4), 2, 0, 3)
        self.assertEqual(leadings(web, web), [(0, 1, 2)])
        self.assertEqual(numbers_at(web, 1), (0, 1, 2))

    def test_leadings_told_are_handed_on(self):
        for first in leadings(ring(8), ring(4)):
            for second in leadings(ring(4), ring(2)):
                self.assertIn(followed(first, second), leadings(ring(8), ring(2)))


if __name__ == "__main__":
    unittest.main()
