"""The tests of the interface: each name stands, and is defined, in the file under which it is listed."""

import importlib
import inspect
import unittest

FUNCTIONS = {
    "inputways.words": {"top": ["w"], "compute": ["op", "w", "x", "y"]},
    "inputways.programs": {"program_faults": ["value"]},
}
CLASSES = {"inputways.errors": ("WaysError", "TextError", "PackError")}
VALUES = {"inputways.words": ("PAIRS", "SINGLES")}


class InterfaceTest(unittest.TestCase):

    def test_functions(self):
        for module, functions in FUNCTIONS.items():
            for name, parameters in functions.items():
                found = getattr(importlib.import_module(module), name)
                self.assertTrue(inspect.isfunction(found), name)
                self.assertEqual(found.__module__, module)
                self.assertEqual(list(inspect.signature(found).parameters), parameters)

    def test_classes(self):
        for module, names in CLASSES.items():
            for name in names:
                found = getattr(importlib.import_module(module), name)
                self.assertTrue(inspect.isclass(found), name)
                self.assertEqual(found.__module__, module)

    def test_values(self):
        for module, names in VALUES.items():
            for name in names:
                self.assertTrue(hasattr(importlib.import_module(module), name), name)


if __name__ == "__main__":
    unittest.main()
