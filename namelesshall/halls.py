"""Halls: the hands of a web that run one program, each by its own turns."""

from namelesshall.terms import fits, value_of
from namelesshall.values import is_ahead


class Hand:
    """What one hand of a hall is at, has heard and has done."""

    def __init__(self, mark, ties):
        self.mark = mark
        self.ties = ties
        self.state = "goes"
        self.row = 0
        self.names = {}
        self.end = None
        self.doings = []
        self.words = [[] for tie in ties]


class Hall:
    """The hands of a web that run a program; it is changed by turns alone."""

    def __init__(self, web, program):
        self.program = program
        self.hands = [Hand(mark, pegs) for mark, pegs in web]

    def turn(self, hand):
        """Lets this hand do what it can in one turn."""
        at = self.hands[hand]
        if at.state == "goes":
            self.do_row(at, self.program[at.row])
        elif not self.is_idle(hand):
            self.hear(at, self.program[at.row])

    def told(self, hand):
        """(state, row, names, end) of this hand."""
        at = self.hands[hand]
        return (at.state, at.row, tuple(sorted(at.names.items())), at.end)

    def lying(self, hand, peg):
        """The words that lie at this peg, first the one that is taken first."""
        return tuple(self.hands[hand].words[peg])

    def done(self, hand):
        """What this hand has done: a list of pairs (row, value)."""
        return list(self.hands[hand].doings)

    def is_over(self):
        """Whether each hand has ended or burst."""
        return all([hand.state in ("ended", "burst") for hand in self.hands])

    def is_idle(self, hand):
        """Whether a turn of this hand would do nothing."""
        at = self.hands[hand]
        if at.state == "said":
            return not all([len(words) > 0 for words in at.words])
        return at.state != "goes"

    def do_row(self, at, row):
        """Does the row at which a hand stands, or says its word where it is a swap."""
        values = [value_of(term, at.mark, len(at.ties), at.names) for term in terms_of(row)]
        if None in values:
            at.state = "burst"
        elif row[0] == "swap":
            self.give_word(at, values[0])
        elif row[0] == "set":
            at.names[row[1]] = values[0]
            self.go_on(at, values[0], at.row + 1)
        elif row[0] == "go":
            self.go_on(at, 0, row[1])
        elif row[0] == "end":
            at.doings.append((at.row, values[0]))
            finish(at, values[0])
        elif is_so(row[1], values[0], values[1]):
            self.go_on(at, 1, row[4])
        else:
            self.go_on(at, 0, at.row + 1)

    def give_word(self, at, word):
        """Lays the word behind those that lie already at each peg to which the hand's pegs lead."""
        for near, place in at.ties:
            self.hands[near].words[place].append(word)
        at.state = "said"

    def hear(self, at, row):
        """Takes the first word at each peg, where the hand can hold what it hears."""
        heard = tuple([(tie[1], words[0]) for tie, words in zip(at.ties, at.words)])
        if not fits(heard):
            at.state = "burst"
            return
        for lain in at.words:
            lain.pop(0)
        at.state = "goes"
        at.names[row[1]] = heard
        self.go_on(at, heard, at.row + 1)

    def go_on(self, at, value, to):
        """Notes what the hand has done at its row, and goes on at the row to."""
        at.doings.append((at.row, value))
        at.row = to
        if to == len(self.program):
            finish(at, 0)


def terms_of(row):
    """The terms of a row."""
    if row[0] == "test":
        return row[2:4]
    return row[-1:] if row[0] != "go" else ()


def is_so(word, one, other):
    """Whether a test by this word of these values is so."""
    return one == other if word == "same" else is_ahead(one, other)


def finish(at, value):
    """Lets a hand end with this value."""
    at.state = "ended"
    at.row = None
    at.end = value
