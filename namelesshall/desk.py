"""The desk: webs and programs kept by names, and what is told of them, row by row."""

from namelesshall.answering import answering
from namelesshall.beneath import beneath
from namelesshall.errors import NoName, NoRow
from namelesshall.figures import are_figures, read_number
from namelesshall.papers import paper_of
from namelesshall.parting import parted
from namelesshall.programs import is_small
from namelesshall.programtexts import read_program, show_program
from namelesshall.runs import in_step
from namelesshall.values import show_value
from namelesshall.webtexts import read_web, show_web

MOST_ROUNDS = 800
MOST_ROUNDS_FIGURES = 3
MOST_HAND_FIGURES = 2
MOST_HANDS_APART = 5
MOST_HANDS_FIRST = 6
# What stands behind the first word of a row: a name that need not be kept yet, one that is, and so on.
FORMS = {
    "web": ("new", "text"),
    "program": ("new", "text"),
    "text": ("name",),
    "least": ("name",),
    "keep": ("new", "name"),
    "parted": ("name", "hand", "name", "hand"),
    "run": ("name", "name", "rounds"),
    "first": ("name",),
    "apart": ("name", "name"),
}


def words_of(row):
    """The words of a row, a text as one of them; NoRow where it is none of the desk's rows."""
    words = row.split(" ")
    if "\n" in row or "" in words or words[0] not in FORMS:
        raise NoRow()
    forms = FORMS[words[0]]
    if forms[-1] == "text":
        words = words[:2] + [" ".join(words[2:])]
    if len(words) != len(forms) + 1:
        raise NoRow()
    for form, word in zip(forms, words[1:]):
        if not is_right_word(form, word):
            raise NoRow()
    return words


def is_right_word(form, word):
    """Whether a word is of this form."""
    if form == "text":
        return len(word) > 0
    if form == "hand":
        return are_figures(word)
    if form == "rounds":
        rounds = read_number(word, MOST_ROUNDS_FIGURES)
        return rounds is not None and rounds <= MOST_ROUNDS
    return is_small(word)


def in_rows(text):
    """The text with line feeds that stands in one row."""
    return text.replace(" ; ", "\n")


def in_one_row(text):
    """This text with line feeds, in one row."""
    return text.replace("\n", " ; ")


def web_of(kept, name):
    """The web that is kept by this name; NoRow where it is a program."""
    sort, web = kept[name]
    if sort != "web":
        raise NoRow()
    return web


def program_of(kept, name):
    """The program that is kept by this name; NoRow where it is a web."""
    sort, program = kept[name]
    if sort != "program":
        raise NoRow()
    return program


def web_of_at_most(kept, name, hands):
    """The web that is kept by this name; NoRow where it is a program or has more hands."""
    web = web_of(kept, name)
    if len(web) > hands:
        raise NoRow()
    return web


def hand_of(web, figures):
    """The hand of this number; NoRow where the web has none."""
    hand = read_number(figures, MOST_HAND_FIGURES)
    if hand is None or hand >= len(web):
        raise NoRow()
    return hand


def keep_web(kept, name, text):
    """Keeps the web of this text."""
    kept[name] = ("web", read_web(in_rows(text)))
    return "kept"


def keep_program(kept, name, text):
    """Keeps the program of this text."""
    kept[name] = ("program", read_program(in_rows(text)))
    return "kept"


def tell_text(kept, name):
    """The text of what is kept, in one row."""
    sort, thing = kept[name]
    return in_one_row(show_web(thing) if sort == "web" else show_program(thing))


def tell_least(kept, name):
    """How many hands the least web has, and the leading."""
    least, leading = beneath(web_of(kept, name))
    return " ".join([str(number) for number in [len(least), *leading]])


def keep_least(kept, name, other):
    """Keeps the least web beneath the other one, and tells its text."""
    least, leading = beneath(web_of(kept, other))
    kept[name] = ("web", least)
    return tell_text(kept, name)


def tell_parted(kept, one, figures, other, other_figures):
    """The row of pegs by which two hands are parted."""
    web = web_of(kept, one)
    other_web = web_of(kept, other)
    pegs = parted(web, hand_of(web, figures), other_web, hand_of(other_web, other_figures))
    if pegs is None:
        return "alike"
    if len(pegs) == 0:
        return "at once"
    return " ".join([str(peg) for peg in pegs])


def tell_run(kept, name, web_name, figures):
    """How a run in step ended, behind how many rounds, and with which ends."""
    program = program_of(kept, name)
    word, ends, rounds = in_step(web_of(kept, web_name), program, int(figures))
    return " ".join([word, str(rounds)] + ["-" if end is None else show_value(end) for end in ends])


def tell_first(kept, name):
    """Whether one hand can be the first, else how many hands the least web has."""
    paper = paper_of(web_of_at_most(kept, name, MOST_HANDS_FIRST))
    return "first" if paper[0] == "first" else f"led {len(paper[1])}"


def tell_apart(kept, one, other):
    """Whether a program tells two webs apart, or a bar."""
    web = web_of_at_most(kept, one, MOST_HANDS_APART)
    other_web = web_of_at_most(kept, other, MOST_HANDS_APART)
    return answering((web,), (other_web,))[0]


ACTIONS = {
    "web": keep_web,
    "program": keep_program,
    "text": tell_text,
    "least": tell_least,
    "keep": keep_least,
    "parted": tell_parted,
    "run": tell_run,
    "first": tell_first,
    "apart": tell_apart,
}


class Desk:
    """Keeps webs and programs by names, and is told rows."""

    def __init__(self):
        self.kept = {}

    def say(self, row):
        """What is told of this row; a row that is refused changes nothing."""
        first, *words = words_of(row)
        for form, word in zip(FORMS[first], words):
            if form == "name" and word not in self.kept:
                raise NoName(word)
        action = ACTIONS[first]
        return action(self.kept, *words)
