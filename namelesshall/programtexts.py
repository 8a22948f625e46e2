"""The texts of programs: a row of words for each row, made terms in round brackets, values in square ones."""

from namelesshall.errors import NoText
from namelesshall.figures import read_number
from namelesshall.programs import MOST_TERMS, is_name, look_program
from namelesshall.values import show_value

MOST_FIGURES = 2
MOST_FIGURES_IN_VALUES = 4
# What stands behind the first word of a row.
ROWS = {
    "set": ("name", "term"),
    "swap": ("name", "term"),
    "test": ("how", "term", "term", "to"),
    "go": ("to",),
    "end": ("term",),
}
# How many terms stand behind the word of a made term; a bundle has none to four.
TERMS = {"plus": 2, "gather": 2, "many": 1, "place": 2}


def show_program(program):
    """The one text of a program that is let by."""
    return "\n".join([show_row(row) for row in program])


def show_row(row):
    """The text of one row."""
    words = [row[0]]
    for kind, part in zip(ROWS[row[0]], row[1:]):
        words.append(show_term(part) if kind == "term" else str(part))
    return " ".join(words)


def show_term(term):
    """The text of a term."""
    if term[0] == "number" or term[0] == "value":
        return show_value(term[1])
    if term[0] == "name":
        return term[1]
    if term[0] == "mark" or term[0] == "pegs":
        return term[0]
    words = " ".join([term[0]] + [show_term(inner) for inner in term[1:]])
    return f"({words})"


def read_program(text):
    """The program of this text; NoText at the first row that is none, else NoProgram as it is looked at."""
    rows = []
    for at, line in enumerate(text.split("\n")):
        row = read_row(line)
        # The reading passes over blanks, noughts ahead and the shape of brackets that close: each row has
        # just one text, so whatever isn't that one is refused here.
        if row is None or show_row(row) != line:
            raise NoText(at)
        rows.append(row)
    program = tuple(rows)
    look_program(program)
    return program


def read_row(line):
    """The row whose text this may be, or None where it is that of none."""
    things = nested(line)
    if things is None or len(things) == 0 or not isinstance(things[0], str):
        return None
    kinds = ROWS.get(things[0])
    if kinds is None or len(kinds) != len(things) - 1:
        return None
    parts = [read_part(kind, thing) for kind, thing in zip(kinds, things[1:])]
    if None in parts:
        return None
    return tuple([things[0]] + parts)


def nested(line):
    """The words of a row, those in brackets as a list with the bracket first; None where brackets don't close."""
    for bracket in "()[]":
        line = line.replace(bracket, f" {bracket} ")
    groups = [[]]
    for word in line.split():
        if word == "(" or word == "[":
            groups.append([word])
        elif word == ")" or word == "]":
            if len(groups) == 1:
                return None
            group = groups.pop()
            groups[-1].append(group)
        else:
            groups[-1].append(word)
    if len(groups) > 1:
        return None
    return groups[0]


def read_part(kind, thing):
    """What stands behind the first word of a row, of this kind, or None."""
    if kind == "term":
        return read_term(thing)
    if not isinstance(thing, str):
        return None
    if kind == "to":
        return read_number(thing, MOST_FIGURES)
    right = is_name(thing) if kind == "name" else thing in ("same", "ahead")
    return thing if right else None


def read_term(thing):
    """The term of a word or of words in brackets, or None."""
    if isinstance(thing, str):
        return read_plain_term(thing)
    if thing[0] == "(":
        return read_made_term(thing[1:])
    value = read_value(thing)
    return None if value is None else ("value", value)


def read_plain_term(word):
    """The term of one word, or None."""
    if word == "mark" or word == "pegs":
        return (word,)
    if is_name(word):
        return ("name", word)
    number = read_number(word, MOST_FIGURES)
    return None if number is None else ("number", number)


def read_made_term(things):
    """The term of what stands in round brackets, or None."""
    if len(things) == 0 or not isinstance(things[0], str):
        return None
    terms = [read_term(thing) for thing in things[1:]]
    if None in terms or not are_so_many(things[0], len(terms)):
        return None
    return tuple([things[0]] + terms)


def are_so_many(word, many):
    """Whether so many terms stand behind this word of a made term."""
    if word == "bundle":
        return many <= MOST_TERMS
    return TERMS.get(word) == many


def read_value(thing):
    """The value of a word, or of words in square brackets, or None."""
    if isinstance(thing, str):
        return read_number(thing, MOST_FIGURES_IN_VALUES)
    if thing[0] != "[":
        return None
    values = [read_value(inner) for inner in thing[1:]]
    return None if None in values else tuple(values)
