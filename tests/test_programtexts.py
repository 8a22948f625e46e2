"""The texts of programs, written and read: point 24, with 22, 23 and 25."""

import random
import re
import unittest

from drawn import drawn_program, drawn_programs
from namelesshall.errors import HallError, NoProgram, NoText
from namelesshall.programs import look_program
from namelesshall.programtexts import read_program, show_program
from test_programs import NAMES, WORDS, deep, rows_around, terms_around

ONE = ("number", 1)
X = ("name", "x")

TERMS = [
    (("number", 0), "0"),
    (("number", 9), "9"),
    (("number", 10), "10"),
    (("number", 99), "99"),
    (("value", ()), "[]"),
    (("value", (5,)), "[5]"),
    (("value", (0,)), "[0]"),
    (("value", ((),)), "[[]]"),
    (("value", (1, (2, 3), ())), "[1 [2 3] []]"),
    (("value", (9999, (1000, 0), 100)), "[9999 [1000 0] 100]"),
    (("value", (((((((7,),),),),),),)), "[[[[[[[7]]]]]]]"),
    (("value", tuple(range(190))), "[" + " ".join(map(str, range(190))) + "]"),
    (("name", "x"), "x"),
    (("name", "abcdef"), "abcdef"),
    (("name", "value"), "value"),
    (("name", "name"), "name"),
    (("name", "number"), "number"),
    (("mark",), "mark"),
    (("pegs",), "pegs"),
    (("plus", ONE, X), "(plus 1 x)"),
    (("bundle",), "(bundle)"),
    (("bundle", ONE), "(bundle 1)"),
    (("bundle", X, ("mark",)), "(bundle x mark)"),
    (("bundle", ("pegs",), ONE, X), "(bundle pegs 1 x)"),
    (("bundle", ("bundle",), ("value", ()), ONE, ("value", (1,))), "(bundle (bundle) [] 1 [1])"),
    (("gather", X, ("name", "y")), "(gather x y)"),
    (("many", X), "(many x)"),
    (("place", X, ("value", (1, 2))), "(place x [1 2])"),
    (("many", ("bundle", ("bundle",), ("bundle",))), "(many (bundle (bundle) (bundle)))"),
    (("plus", ("plus", ("many", X), ONE), ("place", ("mark",), ("gather", X, X))),
     "(plus (plus (many x) 1) (place mark (gather x x)))"),
    (("many", ("many", ("many", ("many", ("many", ("many", ("many", ("mark",)))))))),
     "(many (many (many (many (many (many (many mark)))))))"),
]

ROWS = [
    (("set", "x", ("mark",)), "set x mark"),
    (("swap", "heard", ("bundle",)), "swap heard (bundle)"),
    (("test", "same", X, ONE, 0), "test same x 1 0"),
    (("test", "ahead", ("value", ()), ("many", X), 0), "test ahead [] (many x) 0"),
    (("go", 0), "go 0"),
    (("end", ("value", (1, ()))), "end [1 []]"),
]

# Behind each of these words a row stands that is none; none has a line feed.
NO_ROWS = [
    "", " ", "  ", "\t",
    # blanks
    "go  0", " go 0", "go 0 ", "set  x 1", "set x  1", "end (plus 1  2)", "end ( plus 1 2)", "end (plus 1 2 )",
    "end (plus 1 2) ", "end [ 1]", "end [1 ]", "end [1  2]", "end [ ]", "end (bundle )", "end ( bundle)", "end\t1",
    "end (plus\t1 2)", "end(plus 1 2)", "end (plus 1 2)(plus 1 2)", "set x(plus 1 2)", "end [1][2]", "end [1[2]]",
    "end [[1]2]", "end (plus 1[2])", "end (plus(mark) 2)", "end (plus [1]2)", "end (many(bundle))", "go\u00a00",
    # words too few, words too many
    "go", "set", "set x", "swap", "swap x", "test", "test same", "test same 1", "test same 1 1", "end",
    "go 0 0", "set x 1 1", "swap x 1 1", "test same 1 1 0 0", "test same 1 1 1 0", "end 1 1", "end mark pegs",
    "end (plus 1)", "end (plus)", "end (plus 1 2 3)", "end (gather x)", "end (gather)", "end (gather x x x)",
    "end (many)", "end (many x x)", "end (place x)", "end (place)", "end (place x x x)", "end (bundle 1 1 1 1 1)",
    "end (bundle 1 2 3 4 5 6)", "end (many (bundle 1 1 1 1 1))", "test 1 1 0", "test same ahead 1 1 0",
    # brackets
    "end (plus 1 2", "end plus 1 2)", "end (plus 1 2))", "end ((plus 1 2)", "end ((plus 1 2))", "end (", "end )",
    "end ()", "end [", "end ]", "end ][", "end )(", "end [1", "end 1]", "end [1]]", "end [[1]", "end (plus 1 2]",
    "end [1)", "end (bundle]", "end [)", "end (]", "end [(bundle)]", "end [(plus 1 2)]", "end (1)", "end (mark)",
    "end (x)", "end ([1])", "end (plus (1) 2)", "end (plus 1) 2", "end (many x", "end )many x(", "(end 1)", "(go 0)",
    "go (0)", "go [0]", "set (x) 1", "set [x] 1", "set [1] 1", "test (same) 1 1 0", "test same 1 1 (0)", "[", "]",
    "(", ")", "()", "[]", "end {1}", "end (bundle 1) )", "end (bundle (bundle 1)", "[end] 1", "end ([] 1)",
    # unknown words
    "Set x 1", "sets x 1", "let x 1", "x", "1", "stop", "End 1", "GO 0", "say x 1", "test like 1 1 0",
    "test behind 1 1 0", "test Same 1 1 0", "end (minus 1 2)", "end (Plus 1 2)", "end (number 1)", "end (name x)",
    "end (value [1])", "end (pluss 1 2)", "end (x 1 2)", "end (1 2)", "end (same 1 2)", "end -", "end .", "end ;",
    "go x", "go mark", "go -", "test same 1 1 x", "test same 1 1 mark", ";", "; go 0", "go 0 ;", "# go 0",
    # names that are none
    "set abcdefg 1", "swap abcdefg 1", "end abcdefg", "set X 1", "set aB 1", "end X", "end aB", "set x1 1", "end x1",
    "set 1 1", "swap 1 1", "swap x_ 1", "end x_", "end x-y", "end x.y", "set \u00e9 1", "end \u00e9", "end \uff11",
    "end (many X)", "end (plus x abcdefg)", "end (bundle 1 2 3 x1)",
    # numbers
    "end 100", "end 999", "end 1000", "go 100", "test same 1 1 100", "end (plus 1 100)", "end [10000]",
    "end [1 [99999]]", "end [1 12345]", "end 00", "end 01", "end 007", "go 00", "go 01", "test same 1 1 00",
    "end [00]", "end [01]", "end [1 [007]]", "end [0001]", "end +1", "end -1", "end -0", "go +0", "go -0", "go -1",
    "end [+1]", "end [-1]", "end 1.0", "end 1.", "end .1", "end [1.0]", "end 1_0", "end [1_0]", "end 0x1", "end 1e1",
    "end [0x1]", "end \u0661", "end [\u0661]", "go \u0660", "end \u00b2", "end 1,", "end [1, 2]", "end [1,2]",
    "end " + "9" * 5000, "end [" + "9" * 5000 + "]", "go " + "0" * 5000,
    # what stands in values
    "end [x]", "end [mark]", "end [pegs]", "end [1 x]", "end [set]", "end [plus 1 2]", "end [bundle]", "end [[x]]",
] + [f"set {word} 1" for word in WORDS] + [f"swap {word} 1" for word in WORDS] + [
    f"end {word}" for word in WORDS if word not in ("mark", "pegs")
] + [f"end (many {word})" for word in WORDS if word not in ("mark", "pegs")] + [
    f"end [{word}]" for word in WORDS
] + [f"go {word}" for word in WORDS]


def kinds(value):
    """A value with the kind of each of its parts."""
    if isinstance(value, tuple):
        return (type(value), tuple(kinds(thing) for thing in value))
    return (type(value), value)


class Texts(unittest.TestCase):
    def both_ways(self, program, text=None):
        """Written, to this text where one is told, and read again."""
        self.assertIs(look_program(program), True)
        shown = show_program(program)
        self.assertIs(type(shown), str)
        if text is not None:
            self.assertEqual(shown, text)
        self.assertEqual(kinds(read_program(shown)), kinds(program))

    def no_text(self, row, text):
        with self.assertRaises(NoText, msg=repr(text)) as caught:
            read_program(text)
        self.assertEqual(caught.exception.row, row, repr(text))
        self.assertIs(type(caught.exception.row), int)
        self.assertIsInstance(caught.exception, HallError)

    def no_program(self, row, text):
        with self.assertRaises(NoProgram, msg=repr(text)) as caught:
            read_program(text)
        self.assertEqual(caught.exception.row, row, repr(text))


class WrittenAndRead(Texts):
    def test_each_row(self):
        for row, text in ROWS:
            self.both_ways((row,), text)
        self.both_ways(tuple(row for row, text in ROWS), "\n".join(text for row, text in ROWS))

    def test_each_term_in_each_row(self):
        for term, text in TERMS:
            self.both_ways((("end", term),), f"end {text}")
            self.both_ways((("set", "x", term),), f"set x {text}")
            self.both_ways((("swap", "x", term),), f"swap x {text}")
            self.both_ways((("test", "same", term, ONE, 0),), f"test same {text} 1 0")
            self.both_ways((("test", "ahead", ONE, term, 0),), f"test ahead 1 {text} 0")

    def test_each_term_within_each(self):
        for term, text in TERMS:
            for around in terms_around(term):
                self.both_ways(tuple(rows_around(around)))
            self.assertEqual(show_program((("end", ("gather", ONE, term)),)), f"end (gather 1 {text})")
            self.assertEqual(show_program((("end", ("bundle", ONE, X, term, ONE)),)), f"end (bundle 1 x {text} 1)")

    def test_terms_eight_within_one_another(self):
        for term, text in TERMS[:28]:
            self.both_ways(tuple(rows_around(deep(term, 7))))
        text = "end (plus (plus (plus (plus (plus (plus (plus 1 1) 1) 1) 1) 1) 1) 1)"
        self.assertEqual(show_program(read_program(text)), text)

    def test_a_term_of_forty_parts(self):
        four = ("bundle", ONE, X, ("mark",), ("pegs",))
        term = ("bundle", four, four, ("bundle", four, four, four), ("plus", ("many", four), four))
        self.both_ways(tuple(rows_around(term)))

    def test_names(self):
        for name in NAMES:
            self.both_ways((("set", name, ("name", name)),), f"set {name} {name}")
            self.both_ways((("swap", name, ("many", ("name", name))),), f"swap {name} (many {name})")

    def test_numbers_of_one_and_two_figures(self):
        for number in range(100):
            self.both_ways((("end", ("number", number)),), f"end {number}")

    def test_values_of_one_to_four_figures(self):
        for number in (0, 1, 9, 10, 99, 100, 101, 999, 1000, 9998, 9999):
            self.both_ways((("end", ("value", (number, (number,)))),), f"end [{number} [{number}]]")

    def test_a_value_and_a_number_and_bundles_are_told_apart(self):
        texts = ("end 1", "end [1]", "end (bundle 1)", "end [[1]]", "end (bundle [1])", "end []", "end (bundle)")
        self.assertEqual(len({read_program(text) for text in texts}), len(texts))
        for text in texts:
            self.assertEqual(show_program(read_program(text)), text)

    def test_a_program_of_thirty_rows(self):
        program = tuple((rows_around(term)[at % 7]) for at, (term, text) in enumerate(TERMS[:29])) + (("go", 29),)
        self.assertEqual(len(program), 30)
        self.both_ways(program)
        self.assertEqual(show_program(program).count("\n"), 29)

    def test_rows_to_every_row(self):
        for many in (1, 2, 10, 11, 30, 99):
            for to in range(many):
                rows = [("go", to)] * (many - 1) + [("test", "ahead", X, ONE, to)]
                self.both_ways(tuple(rows))

    def test_drawn_programs(self):
        for program in drawn_programs(24, 400, 5):
            self.both_ways(program)
        chance = random.Random(25)
        for again in range(30):
            self.both_ways(drawn_program(chance, 30, 8))

    def test_unlike_programs_have_unlike_texts(self):
        programs = set(drawn_programs(26, 400, 3))
        self.assertEqual(len({show_program(program) for program in programs}), len(programs))


class NoTexts(Texts):
    def test_the_text_without_signs(self):
        self.no_text(0, "")

    def test_rows_that_are_none(self):
        for bad in NO_ROWS:
            self.no_text(0, bad)
            self.no_text(0, bad + "\ngo 0")
            self.no_text(1, "go 0\n" + bad)
            self.no_text(2, "set x 1\nend [1 []]\n" + bad + "\nend 1")

    def test_each_kind_of_row_at_the_place_of_a_bad_term(self):
        for bad in ("X", "abcdefg", "100", "[10000]", "01", "+1", "(plus 1)", "(bundle 1 1 1 1 1)", "(", "[x]", "go"):
            for row in (f"set x {bad}", f"swap x {bad}", f"end {bad}", f"test same {bad} 1 0",
                        f"test ahead 1 {bad} 0", f"end (plus {bad} 1)", f"end (plus 1 {bad})", f"end (many {bad})",
                        f"end (bundle 1 1 1 {bad})", f"end (gather {bad} x)", f"end (place (many {bad}) x)"):
                self.no_text(0, row)
                self.no_text(1, "end 1\n" + row)

    def test_a_row_without_signs(self):
        self.no_text(0, "\ngo 0")
        self.no_text(1, "go 0\n\ngo 0")
        self.no_text(0, "\n")
        self.no_text(0, "\n\n")

    def test_a_line_feed_at_the_end(self):
        self.no_text(1, "go 0\n")
        self.no_text(2, "go 0\nend (bundle)\n")
        self.no_text(30, "go 0\n" * 30)

    def test_other_ends_of_rows(self):
        self.no_text(0, "go 0\r\ngo 0")
        self.no_text(0, "go 0\rgo 0")
        self.no_text(0, "go 0\x0bgo 0")
        self.no_text(0, "go 0\x0cgo 0")
        self.no_text(0, "go 0\u2028go 0")

    def test_the_first_of_several(self):
        for first in NO_ROWS[::7]:
            for second in NO_ROWS[::11]:
                self.no_text(0, first + "\n" + second)
                self.no_text(1, "end 1\n" + first + "\ngo 0\n" + second)

    def test_deep_brackets_that_are_no_term(self):
        for many in (8, 9, 10, 11, 20):
            self.no_text(0, "end " + "(" * many)
            self.no_text(0, "end " + "[" * many)
            self.no_text(0, "end " + "(" * many + ")" * many)
            self.no_text(0, "end " + "[" * many + "]" * (many + 1))
            self.no_text(0, "end " + "(bundle " * many + ")" * many)


class NoPrograms(Texts):
    def test_a_row_to_that_is_not_there(self):
        self.no_program(0, "go 1")
        self.no_program(0, "go 99")
        self.no_program(1, "end 1\ngo 2")
        self.no_program(1, "go 1\ntest same 1 1 3\ngo 3")
        self.no_program(0, "test ahead x y 3\ngo 2\ngo 4")
        self.no_program(29, "go 29\n" * 29 + "go 30")

    def test_no_text_where_a_later_row_is_no_row(self):
        self.no_text(1, "go 5\ngo")
        self.no_text(1, "go 1\n")
        self.no_text(3, "go 9\ntest same 1 1 9\nend 1\nend (bundle 1 1 1 1 1)\ngo 9")
        self.no_text(2, "go 9\ngo 8\nset mark 1")


class Strict:
    """Reads one row by the words of point 24 from the left; raises ValueError where it is none."""

    NAME = re.compile("[a-z]{1,6}")
    NUMBER = re.compile("0|[1-9][0-9]?")
    VALUE_NUMBER = re.compile("0|[1-9][0-9]{0,3}")

    def __init__(self, row):
        self.left = row

    def take(self, sign):
        if not self.left.startswith(sign):
            raise ValueError
        self.left = self.left[len(sign):]

    def match(self, pattern):
        found = pattern.match(self.left)
        if found is None:
            raise ValueError
        self.left = self.left[found.end():]
        return found.group()

    def name(self):
        name = self.match(self.NAME)
        if name in WORDS:
            raise ValueError
        return name

    def row(self):
        word = self.match(self.NAME)
        self.take(" ")
        if word == "go":
            told = (word, int(self.match(self.NUMBER)))
        elif word == "end":
            told = (word, self.term())
        elif word == "test":
            how = self.match(re.compile("same|ahead"))
            told = (word, how, self.after(), self.after())
            self.take(" ")
            told += (int(self.match(self.NUMBER)),)
        elif word in ("set", "swap"):
            told = (word, self.name(), self.after())
        else:
            raise ValueError
        if self.left:
            raise ValueError
        return told

    def after(self):
        self.take(" ")
        return self.term()

    def term(self):
        if self.left[:1] == "[":
            return ("value", self.value())
        if self.left[:1].isdigit():
            return ("number", int(self.match(self.NUMBER)))
        if self.left[:1] != "(":
            word = self.match(self.NAME)
            if word in ("mark", "pegs"):
                return (word,)
            if word in WORDS:
                raise ValueError
            return ("name", word)
        self.take("(")
        word = self.match(self.NAME)
        terms = []
        while self.left[:1] == " ":
            terms.append(self.after())
        self.take(")")
        if word == "bundle" and len(terms) <= 4 or len(terms) == {"many": 1, "plus": 2, "gather": 2, "place": 2}.get(word):
            return (word,) + tuple(terms)
        raise ValueError

    def value(self):
        if self.left[:1] != "[":
            return int(self.match(self.VALUE_NUMBER))
        self.take("[")
        things = []
        while self.left[:1] != "]":
            if things:
                self.take(" ")
            things.append(self.value())
        self.take("]")
        return tuple(things)


def strictly(text):
    """The program of this text, or the row at which it is none."""
    rows = []
    for at, row in enumerate(text.split("\n")):
        try:
            rows.append(Strict(row).row())
        except ValueError:
            return at
    return tuple(rows)


class Changed(Texts):
    """Texts with a sign more, less or another one are read by another reader, too, which goes sign by sign."""

    def asked(self, text):
        expected = strictly(text)
        if isinstance(expected, int):
            self.no_text(expected, text)
            return
        over = [at for at, row in enumerate(expected) if row[0] in ("go", "test") and row[-1] >= len(expected)]
        if over:
            self.no_program(over[0], text)
        else:
            self.assertEqual(kinds(read_program(text)), kinds(expected))

    def test_one_sign_changed(self):
        texts = [
            "set x (bundle mark pegs)\nswap h [1 [22 3] []]\ntest same (many h) 10 0\ngo 0\nend (bundle)",
            "test ahead (place x (gather x y)) (plus 1 pegs) 1\nend 90",
        ]
        for text in texts:
            for at in range(len(text) + 1):
                self.asked(text[:at] + text[at + 1:])
                for sign in " \n()[]019axX-;~":
                    self.asked(text[:at] + sign + text[at:])
                    self.asked(text[:at] + sign + text[at + 1:])

    def test_drawn_texts_changed(self):
        chance = random.Random(240)
        for program in drawn_programs(27, 250, 4):
            text = show_program(program)
            self.asked(text)
            for again in range(12):
                one, other = sorted((chance.randrange(len(text) + 1), chance.randrange(len(text) + 1)))
                self.asked(text[:one] + text[other:])
                self.asked(text[:one] + chance.choice(" \n()[]059axzB+;~") + text[one:])
                self.asked(text[:one] + text[one:other] * 2 + text[other:])


if __name__ == "__main__":
    unittest.main()
