"""Runs of a program on a web: by an order of turns, and in step."""

from namelesshall.halls import Hall


def by_order(web, program, order):
    """What is told of each hand behind the turns of these hands, one after the other."""
    hall = Hall(web, program)
    for hand in order:
        hall.turn(hand)
    return tuple([hall.told(hand) for hand in range(len(web))])


def in_step(web, program, rounds):
    """(word, ends, rounds done) of rounds in which each hand has one turn."""
    hall = Hall(web, program)
    for already in range(rounds):
        if hall.is_over():
            return ("over", ends_of(hall, len(web)), already)
        if not do_round(hall, len(web)):
            return ("stuck", ends_of(hall, len(web)), already + 1)
    word = "over" if hall.is_over() else "spent"
    return (word, ends_of(hall, len(web)), rounds)


def do_round(hall, hands):
    """One turn of each hand, in their order; whether one of them did something."""
    did = False
    for hand in range(hands):
        # Each is asked just ahead of its own turn: a word said in this round may be taken in it.
        if not hall.is_idle(hand):
            did = True
            hall.turn(hand)
    return did


def ends_of(hall, hands):
    """The end of each hand, None where there is none."""
    return tuple([hall.told(hand)[3] for hand in range(hands)])
