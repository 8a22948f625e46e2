"""Stories: all that a hand can have heard to a turn."""


def story(web, hand, turn):
    """The story of this hand to this turn."""
    stories = [(mark, len(pegs)) for mark, pegs in web]
    for again in range(turn):
        stories = [(mark, heard(pegs, stories)) for mark, pegs in web]
    return stories[hand]


def heard(pegs, stories):
    """For each peg the pair of the peg to which it leads and that hand's story."""
    return tuple([(place, stories[near]) for near, place in pegs])
