"""All that the interface lists is there: modules, names, how many arguments; methods in the classes themselves."""

import importlib
import inspect
import unittest

from namelesshall import errors

FUNCTIONS = {
    "webs": {"look": 1}, "webtexts": {"show_web": 1, "read_web": 1},
    "leadings": {"is_leading": 3, "leadings": 2, "followed": 2},
    "changed": {"renamed": 2, "marked": 3, "exchanged": 4},
    "numbers": {"numbers_at": 2, "numbers_of_two": 3, "stays_from": 1}, "stories": {"story": 3},
    "parting": {"parted": 4}, "beneath": {"beneath": 1, "is_own": 1, "same": 2},
    "lesser": {"by_parting": 2, "lesser_webs": 1}, "together": {"together": 2}, "above": {"above": 2},
    "values": {"parts": 1, "is_ahead": 2, "show_value": 1}, "programs": {"look_program": 1},
    "programtexts": {"show_program": 1, "read_program": 1}, "runs": {"by_order": 3, "in_step": 3},
    "making": {"first_program": 1}, "answering": {"answering": 2}, "papers": {"holds": 2, "paper_of": 1},
    "exchanges": {"fewest": 1, "none_fewer": 2},
}
CLASSES = {
    ("halls", "Hall"): {"__init__": 2, "turn": 1, "told": 1, "lying": 2, "done": 1},
    ("desk", "Desk"): {"__init__": 0, "say": 1},
}
REFUSALS = {"NoWeb": ("word", "at"), "NoText": ("row",), "NoProgram": ("row",), "NoName": ("name",), "NoRow": ()}


def arguments(function):
    """How many arguments a function takes by their places."""
    return len(inspect.signature(function).parameters)


class Interface(unittest.TestCase):
    def test_functions(self):
        for module, functions in FUNCTIONS.items():
            found = importlib.import_module(f"namelesshall.{module}")
            for name, many in functions.items():
                self.assertEqual(arguments(getattr(found, name)), many, name)

    def test_methods_stand_in_the_class_itself(self):
        for (module, name), methods in CLASSES.items():
            found = getattr(importlib.import_module(f"namelesshall.{module}"), name)
            for method, many in methods.items():
                self.assertIn(method, vars(found))
                self.assertEqual(arguments(vars(found)[method]), many + 1, method)

    def test_refusals(self):
        for name, fields in REFUSALS.items():
            kind = getattr(errors, name)
            self.assertEqual(kind.__bases__, (errors.HallError,))
            made = kind(*range(len(fields)))
            self.assertEqual(vars(made), dict(zip(fields, range(len(fields)))))


if __name__ == "__main__":
    unittest.main()
