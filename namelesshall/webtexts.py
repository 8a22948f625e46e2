"""The texts of webs: a row for each hand, its mark and where each of its pegs leads."""

from namelesshall.errors import NoText
from namelesshall.figures import read_number
from namelesshall.webs import look

MOST_FIGURES = 2


def show_web(web):
    """The one text of a web that is let by."""
    return "\n".join([show_hand(mark, pegs) for mark, pegs in web])


def show_hand(mark, pegs):
    """The row of one hand."""
    words = ["hand", str(mark)]
    for hand, peg in pegs:
        words.append(f"{hand}.{peg}")
    return " ".join(words)


def read_web(text):
    """The web of this text; NoText at the first row that is none, else NoWeb where it is no web."""
    hands = []
    for at, row in enumerate(text.split("\n")):
        hand = read_hand(row)
        if hand is None:
            raise NoText(at)
        hands.append(hand)
    web = tuple(hands)
    look(web)
    return web


def read_hand(row):
    """The hand of this row, or None where it is no such row."""
    # Only split(" ") keeps the empty words that show a blank too many.
    words = row.split(" ")
    if len(words) < 2 or words[0] != "hand":
        return None
    mark = read_number(words[1], MOST_FIGURES)
    pegs = [read_peg(word) for word in words[2:]]
    if mark is None or None in pegs:
        return None
    return (mark, tuple(pegs))


def read_peg(word):
    """The (hand, peg) of a word HAND.PEG, or None."""
    numbers = [read_number(figures, MOST_FIGURES) for figures in word.split(".")]
    if len(numbers) != 2 or None in numbers:
        return None
    return (numbers[0], numbers[1])
