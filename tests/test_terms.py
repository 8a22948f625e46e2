"""What terms come to, and which values are too large: points 22 and 23, asked by programs of few rows."""

import functools
import random
import unittest

from drawn import drawn_term, drawn_value
from namelesshall.halls import Hall
from namelesshall.values import parts
from samples import ring
from test_values import nested, order_of

WEB = ((7, ((0, 0), (0, 2), (0, 1))),)


def value(thing):
    """The term whose value is this."""
    return ("value", thing) if isinstance(thing, tuple) else ("number", thing)


def outcome(*rows, web=WEB):
    """(state, end) of hand 0 of the web when it can do no more by these rows."""
    hall = Hall(web, rows)
    for again in range(100):
        hall.turn(0)
    state, row, names, end = hall.told(0)
    return (state, end)


def wide(many):
    """A bundle of so many parts."""
    return (0,) * (many - 1)


class Coming(unittest.TestCase):
    def comes_to(self, term, expected, *rows, web=WEB):
        state, end = outcome(*rows, ("end", term), web=web)
        self.assertEqual((state, end), ("ended", expected), term)
        self.assertIs(type(end), type(expected), term)

    def bursts(self, term, *rows):
        self.assertEqual(outcome(*rows, ("end", term)), ("burst", None), term)


class Plain(Coming):
    def test_numbers_and_values(self):
        for number in (0, 1, 9, 99, 12345):
            self.comes_to(("number", number), number)
        for thing in ((), (0,), (1, (2, 3), ()), ((),), (9999,)):
            self.comes_to(("value", thing), thing)

    def test_the_mark_and_how_many_pegs(self):
        self.comes_to(("mark",), 7)
        self.comes_to(("pegs",), 3)
        for mark in range(10):
            self.comes_to(("mark",), mark, web=((mark, ()),))
        self.comes_to(("pegs",), 0, web=((4, ()),))
        self.comes_to(("pegs",), 2, web=ring(3))
        self.comes_to(("pegs",), 4, web=((4, ((0, 1), (0, 0), (0, 2), (0, 3))),))

    def test_a_name_that_no_row_has_given_is_0(self):
        self.comes_to(("name", "x"), 0)
        self.comes_to(("name", "x"), 0, ("set", "y", ("number", 5)))
        self.comes_to(("bundle", ("name", "x"), ("name", "y")), (0, 5), ("set", "y", ("number", 5)))

    def test_a_name_has_what_it_was_given_last(self):
        x = ("name", "x")
        self.comes_to(x, (1,), ("set", "x", ("number", 5)), ("set", "x", ("value", (1,))))
        self.comes_to(x, 7, ("set", "x", ("number", 5)), ("set", "x", ("plus", x, ("number", 2))))
        self.comes_to(("name", "y"), 5, ("set", "x", ("number", 5)), ("set", "y", x), ("set", "x", ("number", 6)))


class Made(Coming):
    def test_plus(self):
        for one, other in ((0, 0), (0, 5), (5, 0), (1, 1), (99, 99), (40, 2)):
            self.comes_to(("plus", value(one), value(other)), one + other)

    def test_plus_where_one_is_a_bundle(self):
        for one, other in ((5, ()), ((), 5), ((), ()), ((5,), 5), (5, (5,)), ((1, 2), (3,))):
            self.comes_to(("plus", value(one), value(other)), 0)

    def test_plus_of_long_numbers(self):
        rows = [("set", "x", ("number", 99))] + [("set", "x", ("plus", ("name", "x"), ("name", "x")))] * 80
        self.comes_to(("name", "x"), 99 * 2 ** 80, *rows)

    def test_bundles_of_none_to_four(self):
        one, two = ("number", 1), ("value", (2,))
        self.comes_to(("bundle",), ())
        self.comes_to(("bundle", one), (1,))
        self.comes_to(("bundle", two, one), ((2,), 1))
        self.comes_to(("bundle", one, one, two), (1, 1, (2,)))
        self.comes_to(("bundle", ("mark",), ("pegs",), two, ("bundle",)), (7, 3, (2,), ()))

    def test_gather_of_numbers(self):
        self.comes_to(("gather", value(5), value(6)), ())
        self.comes_to(("gather", value(5), value(())), ())
        self.comes_to(("gather", value(()), value(6)), ())
        self.comes_to(("gather", value((3, 1)), value(6)), (1, 3))
        self.comes_to(("gather", value(5), value(((0, (3, 1)),))), (1, 3))

    def test_gather_each_once_in_order(self):
        self.comes_to(("gather", value((3, 1, 2, 3, 1)), value(())), (1, 2, 3))
        self.comes_to(("gather", value((1, 2)), value(((0, (2, 3)), (1, (3, 4, 1))))), (1, 2, 3, 4))
        self.comes_to(("gather", value(((1, 2), (2,), 5, (), (1, 1), (2,), 5, 10)), value(())),
                      (5, 10, (), (2,), (1, 1), (1, 2)))
        self.comes_to(("gather", value(((9,), 99)), value((((), ((0, 0), (9,), 0)),))), (0, 99, (9,), (0, 0)))

    def test_gather_takes_the_second_ones_of_two_alone(self):
        # What is no bundle of two, and second ones that are numbers, have nothing.
        self.comes_to(("gather", value((1,)), value((7, (), ((8,),), ((8,), (9,), (9,)), (0, (2,))))), (1, 2))
        self.comes_to(("gather", value((1,)), value(((0, 5), (0, ()), ((3,), 4)))), (1,))
        self.comes_to(("gather", value(()), value((((3,), (4,)),))), (4,))
        self.comes_to(("gather", value(()), value((((3,), ((4, 5), 6)),))), (6, (4, 5)))
        self.comes_to(("gather", value(()), value((0, (1, 2)))), ())
        # Things of the first one are taken whole, also bundles of two.
        self.comes_to(("gather", value(((0, (2,)), 3)), value(())), (3, (0, (2,))))

    def test_gather_of_what_was_heard(self):
        rows = [("set", "s", ("bundle", ("mark",))), ("swap", "h", ("name", "s"))]
        self.comes_to(("gather", ("name", "s"), ("name", "h")), (7,), *rows)

    def test_many(self):
        for number in (0, 1, 5, 99):
            self.comes_to(("many", value(number)), 0)
        for thing, many in (((), 0), ((5,), 1), (((),), 1), ((1, (2, 3), ()), 3), ((0,) * 50, 50)):
            self.comes_to(("many", value(thing)), many)

    def test_place(self):
        for one, other, place in (
            (5, 9, 0), ((), 9, 0), (5, (), 0), (5, (1, 5, 9), 1), (0, (0, 0), 0), (9, (1, 1, 1, 9, 10), 3),
            ((), (1, 2, (), (0,)), 2), ((0,), (1, 99, (), (0,), (1,)), 3), ((1, 0), ((2,), (0, 9), (1, 0), (1, 1)), 2),
            (5, ((), (1,)), 0), ((0, 0, 0), (7, (), (9,), (9, 9), (0, 0, 0)), 4),
        ):
            self.comes_to(("place", value(one), value(other)), place)

    def test_place_of_a_bundle_that_is_the_other_one(self):
        self.comes_to(("place", value((1, 2)), value((1, 2))), 2)


def things(thing):
    return thing if isinstance(thing, tuple) else ()


def reckoned(term, mark, pegs, names):
    """What a term comes to, by the words of point 22, without a bound."""
    word = term[0]
    if word in ("number", "value"):
        return term[1]
    if word in ("mark", "pegs"):
        return mark if word == "mark" else pegs
    if word == "name":
        return names[term[1]] if term[1] in names else 0
    values = tuple(reckoned(inner, mark, pegs, names) for inner in term[1:])
    if word == "bundle":
        return values
    if word == "plus":
        return 0 if any(isinstance(each, tuple) for each in values) else sum(values)
    if word == "many":
        return len(things(values[0]))
    if word == "place":
        return len([each for each in things(values[1]) if order_of(each, values[0]) < 0])
    taken = set(things(values[0]))
    for pair in things(values[1]):
        if isinstance(pair, tuple) and len(pair) == 2:
            taken |= set(things(pair[1]))
    return tuple(sorted(taken, key=functools.cmp_to_key(order_of)))


class Drawn(Coming):
    def test_drawn_terms(self):
        chance = random.Random(22)
        for again in range(1500):
            names = {name: drawn_value(chance, 4) for name in ("x", "y", "heard")}
            rows = [("set", name, value(names[name])) for name in names]
            term = drawn_term(chance, 5)
            self.comes_to(term, reckoned(term, 7, 3, names), *rows)


class Bursting(Coming):
    """More than 600 parts, more than 40 values within one another."""

    def test_values_of_600_parts_and_of_601(self):
        self.assertEqual(parts(wide(600)), 600)
        self.comes_to(value(wide(600)), wide(600))
        self.bursts(value(wide(601)))
        rows = [("set", "x", value(wide(300)))]
        x = ("name", "x")
        self.comes_to(("bundle", x, value(wide(299))), (wide(300), wide(299)), *rows)
        self.bursts(("bundle", x, value(wide(300))), *rows)
        self.bursts(("bundle", x, x, x, x), *rows)
        self.comes_to(("bundle", x, value(wide(297)), ("mark",), ("pegs",)), (wide(300), wide(297), 7, 3), *rows)
        self.bursts(("bundle", x, value(wide(298)), ("mark",), ("pegs",)), *rows)

    def test_40_values_within_one_another_and_41(self):
        for inmost in ((), 0, 99):
            self.comes_to(value(nested(40, inmost)), nested(40, inmost))
            self.bursts(value(nested(41, inmost)))
            rows = [("set", "x", value(nested(39, inmost)))]
            self.comes_to(("bundle", ("name", "x")), nested(40, inmost), *rows)
            self.bursts(("bundle", ("bundle", ("name", "x"))), *rows)
            self.bursts(("bundle", ("name", "x"), ("mark",)), *rows, ("set", "x", ("bundle", ("name", "x"))))
        # The bundle of none is one value, as a number is, not one more.
        self.comes_to(value(nested(40, ())), nested(40, ()))
        self.assertEqual(nested(2, ()), ((),))

    def test_the_deepest_thing_counts_wherever_it_stands(self):
        for at in range(3):
            bundle = [0, (0,), ()]
            bundle[at] = nested(39)
            self.comes_to(value(tuple(bundle)), tuple(bundle))
            bundle[at] = nested(40)
            self.bursts(value(tuple(bundle)))

    def test_of_a_term_within_a_term(self):
        large, deep = value(wide(601)), value(nested(41))
        for bad in (large, deep):
            for term in (("many", bad), ("plus", bad, ("mark",)), ("plus", ("mark",), bad), ("place", bad, ("mark",)),
                         ("place", ("mark",), bad), ("gather", bad, ("mark",)), ("gather", ("mark",), bad),
                         ("many", ("bundle", ("mark",), bad)), ("many", ("many", ("many", bad)))):
                self.bursts(term)
        x = ("name", "x")
        rows = [("set", "x", value(wide(300)))]
        self.comes_to(("many", ("bundle", x, value(wide(299)))), 2, *rows)
        self.bursts(("many", ("bundle", x, value(wide(300)))), *rows)
        self.bursts(("many", ("many", ("bundle", x, x, x))), *rows)

    def test_gather_counts_what_is_left(self):
        # 599 unlike numbers and the bundle itself are 600 parts; what is there twice counts once.
        many = tuple(range(599))
        rows = [("set", "x", value(many))]
        x = ("name", "x")
        self.comes_to(("gather", x, value(((0, (0, 1, 598)),))), many, *rows)
        self.bursts(("gather", x, value(((0, (0, 1, 599)),))), *rows)
        self.comes_to(("gather", value(many[:-1]), value(((0, (0, 1, 599)),))), many[:-1] + (599,))

    def test_numbers_never_burst(self):
        self.comes_to(("plus", ("number", 10 ** 900), ("number", 10 ** 900)), 2 * 10 ** 900)

    def test_many_things_told_apart_deep_within(self):
        deep = [nested(39, inmost) for inmost in (3, 1, 2, 3, 1)]
        self.comes_to(("gather", value(tuple(deep)), value(())), (nested(39, 1), nested(39, 2), nested(39, 3)))


if __name__ == "__main__":
    unittest.main()
