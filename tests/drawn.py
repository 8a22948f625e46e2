"""Webs, values, terms, programs and orders drawn by chance, the same ones at each run."""

import random

from samples import is_one_piece

NAMES = ("x", "y", "heard", "abcdef", "i", "zz")


def drawn_web(chance, hands, most_pegs=4, marks=(0, 0, 0, 5)):
    """A web of so many hands, any ties: to themselves, within a hand, several between two."""
    while True:
        counts = [chance.randint(0 if hands == 1 else 1, most_pegs) for hand in range(hands)]
        free = [(hand, peg) for hand, many in enumerate(counts) for peg in range(many)]
        ties = {}
        while free:
            one = free.pop(chance.randrange(len(free)))
            other = one
            if free and chance.random() > 0.15:
                other = free.pop(chance.randrange(len(free)))
            ties[one], ties[other] = other, one
        web = tuple(
            (chance.choice(marks), tuple(ties[(hand, peg)] for peg in range(many)))
            for hand, many in enumerate(counts)
        )
        if is_one_piece(web):
            return web


def drawn_webs(seed, hands, many, most_pegs=4, marks=(0, 0, 0, 5)):
    """Many webs of so many hands."""
    chance = random.Random(seed)
    return [drawn_web(chance, hands, most_pegs, marks) for again in range(many)]


def drawn_value(chance, deep=3, most=99):
    """A value; numbers at most this."""
    if deep == 0 or chance.random() < 0.4:
        return chance.randint(0, chance.choice((1, 3, most)))
    return tuple(drawn_value(chance, deep - 1, most) for again in range(chance.randint(0, 3)))


def drawn_term(chance, deep):
    """A term of at most so many terms within one another."""
    word = chance.choice(("number", "value", "name", "mark", "pegs"))
    if deep > 1 and chance.random() < 0.6:
        word = chance.choice(("plus", "bundle", "gather", "many", "place", "bundle", "gather"))
        many = {"bundle": chance.randint(0, 4), "many": 1}.get(word, 2)
        return (word,) + tuple(drawn_term(chance, deep - 1) for again in range(many))
    if word == "number":
        return (word, chance.randint(0, chance.choice((2, 99))))
    if word == "value":
        return (word, tuple(drawn_value(chance, 2, 9999) for again in range(chance.randint(0, 3))))
    if word == "name":
        return (word, chance.choice(NAMES))
    return (word,)


def drawn_row(chance, rows, deep):
    """A row of a program of so many rows."""
    word = chance.choice(("set", "set", "swap", "swap", "test", "go", "end"))
    if word == "go":
        return (word, chance.randrange(rows))
    if word == "end":
        return (word, drawn_term(chance, deep))
    if word == "test":
        terms = (drawn_term(chance, deep), drawn_term(chance, deep))
        return (word, chance.choice(("same", "ahead"))) + terms + (chance.randrange(rows),)
    return (word, chance.choice(NAMES), drawn_term(chance, deep))


def drawn_program(chance, rows, deep=3):
    """A program of so many rows."""
    return tuple(drawn_row(chance, rows, deep) for again in range(rows))


def drawn_programs(seed, many, deep=3):
    """Many programs of one to ten rows."""
    chance = random.Random(seed)
    return [drawn_program(chance, chance.randint(1, 10), deep) for again in range(many)]


def drawn_order(chance, hands, turns):
    """An order of so many turns, in which some hands come more often than others."""
    often = [hand for hand in range(hands) for again in range(chance.randint(1, 6))]
    return tuple(chance.choice(often) for again in range(turns))
