"""Programs made from a number of hands: one hand calls itself the first where any program can let it."""

from namelesshall.programtexts import read_program

# The row at which hands go on once they have heard all that can be heard.
BEHIND_LISTENING = 13


def listening(hands):
    """The texts of rows by which hands of webs of at most so many hear all that can be heard.

    At the row BEHIND_LISTENING s is, at each hand, the bundle in order of what all hands tell of themselves,
    each told once, and x what the hand itself tells: its mark, its number, and for each peg the peg to which
    it leads and the number there.
    """
    return [
        "set x (bundle mark pegs)",
        "set s (bundle x)",
        "set i 0",
        # No hand is further away than by one tie less than there are hands.
        f"test same i {hands - 1} 8",
        "swap h s",
        "set s (gather s h)",
        "set i (plus i 1)",
        "go 3",
        # Once no more unlike hands are told of than a turn ago, there never will be more.
        f"test same (many s) k {BEHIND_LISTENING}",
        "set k (many s)",
        # A hand's number is its place among the unlike ones: so words stay short.
        "swap h (place x s)",
        "set x (bundle mark (place x s) h)",
        "go 1",
    ]


def first_program(n):
    """The program by which on a web of n hands one ends with 1, all others with 0; all with 2 where none can."""
    rows = listening(n) + [
        f"test same (many s) {n} 15",
        "end 2",
        "test same (place x s) 0 17",
        "end 0",
        "end 1",
    ]
    return read_program("\n".join(rows))
