"""Two lists of webs told apart by one program, or barred by a web that lies beneath one of each."""

from namelesshall.beneath import beneath
from namelesshall.making import BEHIND_LISTENING, listening
from namelesshall.programtexts import read_program
from namelesshall.values import show_value


def answering(ones, others):
    """("bar", i, j, least, leading, leading) where two have the same least web, else ("program", program)."""
    beneath_ones = [beneath(web) for web in ones]
    beneath_others = [beneath(web) for web in others]
    for i, (least, leading) in enumerate(beneath_ones):
        for j, (other_least, other_leading) in enumerate(beneath_others):
            if least == other_least:
                return ("bar", i, j, least, leading, other_leading)
    hands = max([len(web) for web in [*ones, *others]])
    return ("program", telling_program(hands, [least for least, leading in beneath_ones]))


def telling_program(hands, leasts):
    """The program by which all hands of a web end with 1 where its least web is one of these, else with 0.

    It is meant for webs of at most so many hands.
    """
    rows = listening(hands)
    last = BEHIND_LISTENING + len(leasts) + 1
    for least in leasts:
        rows.append(f"test same s {show_value(heard_of(least))} {last}")
    rows.append("end 0")
    rows.append("end 1")
    return read_program("\n".join(rows))


def heard_of(least):
    """What hands have heard behind listening, on all webs with this least web.

    The least web's numbers rise by marks first, so that its hands are in the order of values already.
    """
    told = []
    for number, (mark, pegs) in enumerate(least):
        told.append((mark, number, tuple([(place, near) for near, place in pegs])))
    return tuple(told)
