"""Papers of a web: that one hand can be the first, by a program, or that none can, by a lesser web."""

from namelesshall.beneath import beneath
from namelesshall.errors import NoProgram, NoWeb
from namelesshall.leadings import is_leading
from namelesshall.making import first_program
from namelesshall.programs import look_program
from namelesshall.runs import in_step
from namelesshall.webs import look

MOST_HANDS = 8
MOST_ROUNDS = 800


def holds(web, paper):
    """Whether a paper, ("first", program) or ("led", lesser, leading), holds for this web."""
    if paper[0] == "first":
        return makes_one_first(web, paper[1])
    return paper[0] == "led" and is_led(web, paper[1], paper[2])


def is_led(web, lesser, leading):
    """Whether the second is a lesser web of the first by this leading."""
    if len(lesser) >= len(web) or len(lesser) > MOST_HANDS:
        return False
    try:
        look(lesser)
    except NoWeb:
        return False
    return is_leading(web, lesser, leading)


def makes_one_first(web, program):
    """Whether by this program, in step, just one hand ends with 1 and all others with 0."""
    try:
        look_program(program)
    except NoProgram:
        return False
    word, ends, rounds = in_step(web, program, MOST_ROUNDS)
    return word == "over" and ends.count(1) == 1 and ends.count(0) == len(web) - 1


def paper_of(web):
    """A paper that holds for this web."""
    least, leading = beneath(web)
    if len(least) == len(web):
        return ("first", first_program(len(web)))
    return ("led", least, leading)
