"""Programs: tuples of rows, which are tuples of a word and of names, terms and rows to."""

from namelesshall.errors import NoProgram
from namelesshall.values import is_bundle

LETTERS = "abcdefghijklmnopqrstuvwxyz"
MOST_LETTERS = 6
MOST_TERMS = 4
WORDS = (
    "set", "swap", "test", "go", "end", "same", "ahead",
    "mark", "pegs", "plus", "bundle", "gather", "many", "place",
)


def look_program(program):
    """True for a program; else NoProgram with the first row that is wrong."""
    if len(program) == 0:
        raise NoProgram(0)
    for at, row in enumerate(program):
        if not is_right_row(row, len(program)):
            raise NoProgram(at)
    return True


def is_right_row(row, rows):
    """Whether a row of a program of so many rows is right."""
    if row[0] == "go":
        return is_row_there(row[1], rows)
    if row[0] == "test":
        return is_right_term(row[2]) and is_right_term(row[3]) and is_row_there(row[4], rows)
    if row[0] == "end":
        return is_right_term(row[1])
    return is_name(row[1]) and is_right_term(row[2])


def is_row_there(to, rows):
    """Whether a program of so many rows has the row to."""
    return 0 <= to and to < rows


def is_right_term(term):
    """Whether all names, numbers and bundles in this term are right."""
    if term[0] == "number" or term[0] == "value":
        return is_right_value(term[1])
    if term[0] == "name":
        return is_name(term[1])
    terms = term[1:]
    if term[0] == "bundle" and len(terms) > MOST_TERMS:
        return False
    return all(is_right_term(inner) for inner in terms)


def is_right_value(value):
    """Whether no number in this value is below 0."""
    if is_bundle(value):
        return all(is_right_value(thing) for thing in value)
    return value >= 0


def is_name(text):
    """Whether this text is the name of something in a program."""
    return is_small(text) and text not in WORDS


def is_small(text):
    """Whether this text is one to six small letters."""
    if len(text) == 0 or len(text) > MOST_LETTERS:
        return False
    return all(letter in LETTERS for letter in text)
