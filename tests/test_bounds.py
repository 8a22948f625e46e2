"""Whether a program is within the bounds of point 2, asked of programs that are made: points 30 and 32."""

import unittest

from namelesshall.programs import look_program
from namelesshall.programtexts import read_program, show_program
from namelesshall.values import parts
from test_values import nested


def term_parts(term):
    """How many terms are in this one, itself too."""
    return 1 + sum(term_parts(inner) for inner in inner_terms(term))


def term_depth(term):
    """How many terms stand within one another."""
    return 1 + max([term_depth(inner) for inner in inner_terms(term)], default=0)


def inner_terms(term):
    """The terms right within this one."""
    return () if term[0] in ("number", "value", "name") else term[1:]


def all_terms(term):
    """This term and all terms in it."""
    return [term] + [each for inner in inner_terms(term) for each in all_terms(inner)]


def value_depth(value):
    """How many values stand within one another."""
    if isinstance(value, int):
        return 1
    return 1 + max([value_depth(thing) for thing in value], default=0)


def numbers_in(value):
    """All numbers in a value."""
    if isinstance(value, int):
        return [value]
    return [number for thing in value for number in numbers_in(thing)]


class WithinBounds(unittest.TestCase):
    def is_within_bounds(self, program):
        """Let by, of at most 30 rows, within the bounds of point 2, written and read again the same."""
        self.assertIs(look_program(program), True)
        self.assertLessEqual(len(program), 30)
        for row in program:
            for term in [part for part in row if isinstance(part, tuple)]:
                self.assertLessEqual(term_parts(term), 12)
                self.assertLessEqual(term_depth(term), 5)
                for inner in all_terms(term):
                    self.is_small(inner)
        text = show_program(program)
        self.assertLessEqual(len(text), 16000)
        self.assertEqual(read_program(text), program)
        self.assertEqual(repr(read_program(text)), repr(program))

    def is_small(self, term):
        if term[0] == "number":
            self.assertLessEqual(term[1], 99)
        if term[0] == "value":
            self.assertIsInstance(term[1], tuple)
            self.assertLessEqual(parts(term[1]), 200)
            self.assertLessEqual(value_depth(term[1]), 8)
            self.assertLessEqual(max(numbers_in(term[1]), default=0), 9999)


class Asked(WithinBounds):
    """The asking itself: what is just within the bounds, and what is not."""

    def test_bounds(self):
        four = ("bundle",) + (("mark",),) * 4
        good = (("end", ("value", tuple(range(199)))), ("end", ("value", nested(8))), ("end", ("number", 99)),
                ("end", ("bundle", four, four, ("mark",))))
        self.is_within_bounds(good)
        for bad in (("value", tuple(range(200))), ("value", nested(9, 5)), ("number", 100), ("value", (10000,)),
                    ("bundle", four, four, ("many", ("mark",))),
                    ("many", ("many", ("many", ("many", ("many", ("mark",))))))):
            with self.assertRaises(AssertionError):
                self.is_within_bounds((("end", bad),))


if __name__ == "__main__":
    unittest.main()
