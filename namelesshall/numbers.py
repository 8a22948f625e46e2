"""Numbers of hands: hands have the same one at a turn just where they have heard the same till then."""


def numbers_at(web, turn):
    """The numbers of the web's hands at this turn."""
    numbers = first_numbers(web)
    for again in range(turn):
        numbers = next_numbers(web, numbers)
    return numbers


def numbers_of_two(one, other, turn):
    """The numbers at this turn of all hands of both webs together, a pair of tuples."""
    numbers = numbers_at(side_by_side(one, other), turn)
    return (numbers[:len(one)], numbers[len(one):])


def stays_from(web):
    """The first turn from which on the numbers stay."""
    turn = 0
    numbers = first_numbers(web)
    later = next_numbers(web, numbers)
    # Each turn's numbers come from the last ones alone: the same once are the same for ever.
    while later != numbers:
        turn += 1
        numbers = later
        later = next_numbers(web, numbers)
    return turn


def first_numbers(web):
    """The numbers at turn 0."""
    return places([(mark, len(pegs)) for mark, pegs in web])


def next_numbers(web, numbers):
    """The numbers at the turn behind that of these numbers."""
    told = []
    for hand, (mark, pegs) in enumerate(web):
        heard = tuple([(place, numbers[near]) for near, place in pegs])
        told.append((numbers[hand], heard))
    return places(told)


def places(things):
    """For each thing its place among the unlike ones, in the order of Python's tuples."""
    place_of = {thing: place for place, thing in enumerate(sorted(set(things)))}
    return tuple([place_of[thing] for thing in things])


def side_by_side(one, other):
    """The hands of both webs in one tuple, those of the other one numbered behind those of the one."""
    many = len(one)
    moved = [(mark, tuple([(near + many, place) for near, place in pegs])) for mark, pegs in other]
    return one + tuple(moved)
