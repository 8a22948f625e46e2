"""The texts of webs: a row for each hand, its mark and where each of its pegs leads."""

from namelesshall.errors import NoText
from namelesshall.webs import look

FIGURES = "0123456789"
MOST_FIGURES = 2


def show_web(web):
    """The one text of a web that is let by."""
    return "\n".join([show_hand(mark, pegs) for mark, pegs in web])


def show_hand(mark, pegs):
    """The row of one hand."""
    words = ["hand", str(mark)]
    for hand, peg in pegs:
        words.append(f"{hand}.{peg}")
    return " ".join(words)


def read_web(text):
    """The web of this text; NoText at the first row that is none, else NoWeb where it is no web."""
    hands = []
    for at, row in enumerate(text.split("\n")):
        hand = read_hand(row)
        if hand is None:
            raise NoText(at)
        hands.append(hand)
    web = tuple(hands)
    look(web)
    return web


def read_hand(row):
    """The hand of this row, or None where it is no such row."""
    # Only split(" ") keeps the empty words that show a blank too many.
    words = row.split(" ")
    if len(words) < 2 or words[0] != "hand":
        return None
    mark = read_number(words[1])
    pegs = [read_peg(word) for word in words[2:]]
    if mark is None or None in pegs:
        return None
    return (mark, tuple(pegs))


def read_peg(word):
    """The (hand, peg) of a word HAND.PEG, or None."""
    numbers = [read_number(figures) for figures in word.split(".")]
    if len(numbers) != 2 or None in numbers:
        return None
    return (numbers[0], numbers[1])


def read_number(figures):
    """The number of one or two figures without a nought ahead of others, or None."""
    if len(figures) == 0 or len(figures) > MOST_FIGURES:
        return None
    # isdigit would let by signs that are no figures from 0 to 9.
    if any(sign not in FIGURES for sign in figures):
        return None
    if len(figures) > 1 and figures[0] == "0":
        return None
    return int(figures)
