"""Values, their parts, order and texts: point 21."""

import functools
import itertools
import unittest

from namelesshall.values import is_ahead, parts, show_value

LONG = 10 ** 1000 - 1


def nested(many, inmost=()):
    """A value with so many values within one another around and with the inmost one."""
    value = inmost
    for again in range(many - 1):
        value = (value,)
    return value


def all_values(many):
    """All values of at most so many parts whose numbers are 0, 1 and 2."""
    values = {1: [0, 1, 2, ()]}
    for size in range(2, many + 1):
        values[size] = []
        for sizes in splits(size - 1):
            values[size].extend(itertools.product(*[values[each] for each in sizes]))
    return [value for size in values for value in values[size]]


def splits(many):
    """All tuples of numbers from 1 on with this sum."""
    if many == 0:
        return [()]
    return [(first,) + rest for first in range(1, many + 1) for rest in splits(many - first)]


def order_of(one, other):
    """-1, 0 or 1, by the words of point 21."""
    if isinstance(one, int) != isinstance(other, int):
        return -1 if isinstance(one, int) else 1
    if isinstance(one, int):
        return (one > other) - (one < other)
    if len(one) != len(other):
        return -1 if len(one) < len(other) else 1
    orders = [order_of(mine, theirs) for mine, theirs in zip(one, other)]
    return next((order for order in orders if order != 0), 0)


VALUES = all_values(4)


class Parts(unittest.TestCase):
    def told(self, value, many):
        self.assertEqual(parts(value), many)
        self.assertIs(type(parts(value)), int)

    def test_numbers_are_one_part(self):
        for number in (0, 1, 9, 10, 9999, LONG):
            self.told(number, 1)

    def test_the_bundle_of_none_is_one_part(self):
        self.told((), 1)

    def test_bundles(self):
        self.told((0,), 2)
        self.told(((),), 2)
        self.told((1, 2, 3), 4)
        self.told((1, (2, 3), ()), 6)
        self.told((((0,),), (0, (0,)), 5), 9)

    def test_each_place_counts_though_things_are_alike(self):
        self.told((7, 7, 7), 4)
        thing = (1, 2)
        self.told((thing, thing, (thing,)), 11)

    def test_six_hundred_parts(self):
        self.told((5,) * 599, 600)
        self.told(((0, (1,)),) * 149 + (1, 1, 1), 600)
        self.told(tuple(range(299)) + (tuple(range(299)),), 600)

    def test_forty_within_one_another(self):
        self.told(nested(40), 40)
        self.told(nested(40, 8), 40)
        self.told((nested(39), nested(38, 4), 3), 79)

    def test_somewhat_beyond_the_bounds(self):
        self.told((5,) * 700, 701)
        self.told(nested(60), 60)


class Ahead(unittest.TestCase):
    def ahead(self, one, other):
        self.assertIs(is_ahead(one, other), True, (one, other))
        self.assertIs(is_ahead(other, one), False, (one, other))

    def test_numbers_by_size(self):
        self.ahead(0, 1)
        self.ahead(9, 10)
        self.ahead(2, 10)
        self.ahead(9998, 9999)

    def test_numbers_of_many_figures(self):
        self.ahead(LONG - 1, LONG)
        self.ahead(5, LONG)
        self.ahead(10 ** 999 - 1, 10 ** 999)
        self.ahead((LONG, 1), (LONG, 2))

    def test_numbers_ahead_of_bundles(self):
        self.ahead(0, ())
        self.ahead(7, ())
        self.ahead(LONG, (0,))
        self.ahead((1, 5), (1, ()))
        self.ahead((9, (4, (3, 9))), (9, (4, (3, ()))))

    def test_bundles_of_fewer_things_whatever_is_in_them(self):
        self.ahead((), (0,))
        self.ahead((9,), (0, 0))
        self.ahead(((9, 9, 9, 9),), (0, 0))
        self.ahead((LONG, nested(38)), (0, 0, 0))
        self.ahead((5, 5, 5), (0,) * 599)

    def test_of_as_many_by_the_first_unlike_thing(self):
        self.ahead((1, 9), (2, 0))
        self.ahead((1, 0), (1, 9))
        self.ahead((1, 2, 3), (1, 2, 4))
        self.ahead((1, 2, (9, 9)), (1, 3, 0))
        self.ahead((0, 9, 9), (1, 0, 0))
        self.ahead(((9,), 9), ((0, 0), 0))

    def test_deep_within(self):
        self.ahead(nested(40, 3), nested(40, 4))
        self.ahead(nested(40, 3), nested(40))
        self.ahead(nested(39, (1, 2)), nested(39, (1, 3)))
        # A bundle of fewer things goes ahead deep within, too.
        self.ahead((1, (2, (9,)), 5), (1, (2, (0, 0)), 0))
        self.ahead((7,) * 598 + (1,), (7,) * 598 + (2,))

    def test_never_a_value_and_itself(self):
        for value in VALUES + [LONG, nested(40), (5,) * 599]:
            self.assertIs(is_ahead(value, value), False)
        self.assertIs(is_ahead((1, (2, 3)), (1, tuple([2, 3]))), False)

    def test_of_two_unlike_ones_just_one(self):
        for one, other in itertools.product(VALUES, repeat=2):
            order = order_of(one, other)
            self.assertIs(is_ahead(one, other), order == -1, (one, other))
            self.assertEqual(order == 0, one == other)

    def test_one_order_of_all(self):
        ordered = sorted(VALUES, key=functools.cmp_to_key(lambda one, other: -1 if is_ahead(one, other) else 1))
        for at, one in enumerate(ordered):
            for other in ordered[at + 1::7]:
                self.ahead(one, other)


class Texts(unittest.TestCase):
    def told(self, value, text):
        self.assertEqual(show_value(value), text)
        self.assertIs(type(show_value(value)), str)

    def test_numbers(self):
        self.told(0, "0")
        self.told(7, "7")
        self.told(10, "10")
        self.told(9999, "9999")
        self.told(LONG, "9" * 1000)
        self.told(10 ** 999, "1" + "0" * 999)

    def test_bundles(self):
        self.told((), "[]")
        self.told((0,), "[0]")
        self.told((1, (2, 3), ()), "[1 [2 3] []]")
        self.told(((), ()), "[[] []]")
        self.told((((12,),),), "[[[12]]]")
        self.told((LONG, 1), "[" + "9" * 1000 + " 1]")

    def test_deep_and_long(self):
        self.told(nested(40), "[" * 40 + "]" * 40)
        self.told(nested(40, 6), "[" * 39 + "6" + "]" * 39)
        self.told((5,) * 599, "[" + " ".join(["5"] * 599) + "]")

    def test_unlike_values_have_unlike_texts(self):
        self.assertEqual(len({show_value(value) for value in VALUES}), len(set(VALUES)))


if __name__ == "__main__":
    unittest.main()
