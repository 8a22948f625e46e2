"""Programs looked at: points 22, 23 and 25, and the words of 24 that are no names."""

import itertools
import string
import unittest

from namelesshall.errors import HallError, NoProgram
from namelesshall.programs import look_program

ONE = ("number", 1)
WORDS = ("set", "swap", "test", "go", "end", "same", "ahead", "mark", "pegs", "plus", "bundle", "gather", "many",
         "place")
NO_NAMES = WORDS + (
    "", "abcdefg", "a" * 7, "a" * 600, "A", "aB", "Set", "a1", "1", "0", "a b", " ", " a", "a ", "a_b", "_", "a-b",
    "a.", "(a", "a)", "[", "a\n", "\n", "\t", "a\tb", "~", "a\u00df", "\u00e9", "\u03b1", "\uff41", "\u0000",
)
NAMES = ("a", "z", "x", "abcdef", "zzzzzz", "names", "setx", "ends", "goo", "tests", "marks", "peg", "value", "name",
         "number", "to", "row", "first")


def terms_around(term):
    """Terms of each sort with this term at each place in them."""
    return [
        term, ("plus", term, ONE), ("plus", ONE, term), ("gather", term, ONE), ("gather", ONE, term),
        ("place", term, ONE), ("place", ONE, term), ("many", term), ("bundle", term),
        ("bundle", ONE, term), ("bundle", ONE, ONE, term), ("bundle", ONE, ONE, ONE, term),
        ("bundle", term, ONE, ONE, ONE),
    ]


def deep(term, many):
    """This term within so many others."""
    for at in range(many):
        term = terms_around(term)[1 + at * 5 % 12]
    return term


def rows_around(term):
    """Rows of each sort with this term at each place in them."""
    return [
        ("set", "x", term), ("swap", "x", term), ("end", term),
        ("test", "same", term, ONE, 0), ("test", "same", ONE, term, 0),
        ("test", "ahead", term, ONE, 0), ("test", "ahead", ONE, term, 0),
    ]


class Looking(unittest.TestCase):
    def let_by(self, *program):
        self.assertIs(look_program(program), True, program)

    def refused(self, row, *program):
        with self.assertRaises(NoProgram) as caught:
            look_program(program)
        self.assertEqual(caught.exception.row, row, program)
        self.assertIs(type(caught.exception.row), int)
        self.assertIsInstance(caught.exception, HallError)

    def refused_at_each_place(self, bad):
        """Refused as first, middle and last row of a program, at the row's number."""
        self.refused(0, bad)
        self.refused(0, bad, ("go", 0))
        self.refused(1, ("go", 0), bad, ("end", ONE))
        self.refused(3, ("set", "x", ONE), ("swap", "y", ("mark",)), ("go", 3), bad)


class LetBy(Looking):
    def test_each_row(self):
        for row in rows_around(ONE) + [("go", 0)]:
            self.let_by(row)
        self.let_by(*rows_around(("name", "x")), ("go", 7))

    def test_each_term(self):
        terms = [
            ("number", 0), ("number", 99), ("value", ()), ("value", (1, (2, ()), 0)), ("name", "x"), ("mark",),
            ("pegs",), ("plus", ONE, ONE), ("bundle",), ("bundle", ONE), ("bundle", ONE, ONE),
            ("bundle", ONE, ONE, ONE), ("bundle", ONE, ONE, ONE, ONE), ("gather", ONE, ONE), ("many", ONE),
            ("place", ONE, ONE),
        ]
        for term in terms:
            for around in terms_around(term):
                self.let_by(*rows_around(around))
            self.let_by(*rows_around(deep(term, 7)))

    def test_names(self):
        for name in NAMES + tuple(string.ascii_lowercase) + tuple(6 * letter for letter in string.ascii_lowercase):
            self.let_by(("set", name, ("name", name)), ("swap", name, ("many", ("name", name))))

    def test_bundles_of_none_and_of_four_terms(self):
        none, four = ("bundle",), ("bundle", ONE, ("mark",), ("pegs",), ("name", "x"))
        for term in (none, four, ("bundle", none, four, four, none), deep(four, 6)):
            self.let_by(*rows_around(term))

    def test_a_value_may_have_many_things(self):
        self.let_by(("end", ("value", tuple(range(190)))))
        self.let_by(("end", ("value", ((1, 2, 3, 4, 5), (5, 4, 3, 2, 1, 0)))))

    def test_rows_to_the_first_the_last_and_their_own(self):
        for many in (1, 2, 3, 30, 31, 60):
            for at, to in itertools.product((0, many // 2, many - 1), repeat=2):
                rows = [("set", "x", ONE)] * many
                rows[at] = ("go", to)
                self.let_by(*rows)
                rows[at] = ("test", "ahead", ONE, ("mark",), to)
                self.let_by(*rows)

    def test_numbers_of_more_than_two_figures(self):
        for number in (100, 9999, 10000, 10 ** 1000):
            self.let_by(("end", ("number", number)), ("end", ("value", (number, (number,)))))

    def test_a_large_term(self):
        four = ("bundle", ONE, ONE, ONE, ONE)
        self.let_by(("end", ("bundle", four, four, ("bundle", four, four, four), ("plus", four, four))))


class Refused(Looking):
    def test_no_rows(self):
        self.refused(0)

    def test_no_names_where_names_are_given(self):
        for name in NO_NAMES:
            self.refused_at_each_place(("set", name, ONE))
            self.refused_at_each_place(("swap", name, ONE))

    def test_no_names_in_terms(self):
        for name in NO_NAMES:
            for row in rows_around(("name", name)):
                self.refused_at_each_place(row)

    def test_no_names_deep_within(self):
        for name in ("", "abcdefg", "A", "a1", "a b", "mark", "gather"):
            for term in terms_around(("name", name)):
                for row in rows_around(term):
                    self.refused_at_each_place(row)
            for row in rows_around(deep(("name", name), 7)):
                self.refused_at_each_place(row)

    def test_a_number_below_0(self):
        for number in (-1, -2, -99, -10 ** 30):
            for term in terms_around(("number", number)) + [deep(("number", number), 7)]:
                for row in rows_around(term):
                    self.refused_at_each_place(row)

    def test_a_number_below_0_in_a_value(self):
        for value in ((-1,), (0, -1), (-1, 0), ((), (-5,)), (1, (2, (3, (4, -1)))), (((((((-1,),),),),),),)):
            for term in terms_around(("value", value)) + [deep(("value", value), 7)]:
                for row in rows_around(term):
                    self.refused_at_each_place(row)

    def test_a_row_that_is_not_there(self):
        for many in (1, 2, 3, 30):
            for at in (0, many // 2, many - 1):
                for to in (-1, -many, -many - 1, many, many + 1, -10 ** 30, 10 ** 30):
                    rows = [("end", ONE)] * many
                    rows[at] = ("go", to)
                    self.refused(at, *rows)
                    rows[at] = ("test", "same", ONE, ONE, to)
                    self.refused(at, *rows)
                    rows[at] = ("test", "ahead", ONE, ONE, to)
                    self.refused(at, *rows)

    def test_a_bundle_of_more_than_four_terms(self):
        for many in (5, 6, 39):
            bad = ("bundle",) + (ONE,) * many
            for term in terms_around(bad) + [deep(bad, 7)]:
                for row in rows_around(term):
                    self.refused_at_each_place(row)
        self.refused(0, ("end", ("bundle",) + (("bundle",),) * 5))

    def test_each_part_of_a_test(self):
        bad = ("name", "go")
        self.refused(1, ("go", 0), ("test", "same", bad, ONE, 0))
        self.refused(1, ("go", 0), ("test", "same", ONE, bad, 0))
        self.refused(1, ("go", 0), ("test", "same", ONE, ONE, 2))
        self.refused(1, ("go", 0), ("test", "same", bad, bad, 2))

    def test_the_first_of_several(self):
        bad = [("set", "Set", ONE), ("end", ("number", -1)), ("go", 99), ("swap", "x", ("bundle",) + (ONE,) * 5),
               ("test", "same", ONE, ("value", (-1,)), 0)]
        for first, second in itertools.permutations(bad, 2):
            self.refused(0, first, second)
            self.refused(1, ("end", ONE), first, ("end", ONE), second)
            self.refused(2, ("go", 0), ("go", 2), first, second, second)


if __name__ == "__main__":
    unittest.main()
