"""The tests of the interface: each name stands, and is defined, in the file under which it is listed."""

import importlib
import inspect
import unittest

from inputways.house import House
from inputways.pool import Pool
from inputways.unrolling import unroll

FUNCTIONS = {
    "inputways.words": {"top": "(w)", "compute": "(op, w, x, y)"},
    "inputways.programs": {"program_faults": "(value)"},
    "inputways.text": {"show_program": "(program)", "read_program": "(text)"},
    "inputways.runs": {"run": "(program, inputs, *, steps)", "met": "(program, inputs, *, steps)",
                       "items_of": "(program)"},
    "inputways.bitwords": {"constant": "(pool, n, w)", "added": "(pool, x, y, carry)", "computed": "(pool, op, x, y)",
                           "single": "(pool, op, x)", "less_word": "(pool, x, y)", "equal_word": "(pool, x, y)",
                           "is_true": "(pool, x)", "chosen_word": "(pool, c, x, y)",
                           "word_value": "(pool, x, bits)"},
    "inputways.refuter": {"is_clause": "(value)", "follows": "(clauses, clause)", "refutes": "(clauses, value)"},
    "inputways.solver": {"solve": "(clauses)"},
    "inputways.trees": {"explore": "(program, inputs, *, steps)", "check_tree": "(program, inputs, value, *, steps)",
                        "refusal": "(program, inputs, value, *, steps)",
                        "ways_of": "(program, inputs, tree, *, steps)",
                        "told_run": "(program, inputs, tree, *, steps)"},
    "inputways.unrolling": {"unroll": "(program, inputs, steps)"},
    "inputways.reach": {"item_clauses": "(program, item, inputs, *, steps)", "reach": "(program, item, inputs, *, steps)",
                        "check_reach": "(program, item, inputs, value, *, steps)"},
    "inputways.claims": {"are_claims": "(program, value)", "obligations": "(program, claims)",
                         "check_claims": "(program, value)", "kept": "(program, claims)", "prove": "(program, claims)"},
    "inputways.cover": {"cover_clauses": "(sets, most)"},
    "inputways.suites": {"suite": "(program, inputs, *, steps)", "check_suite": "(program, inputs, value, *, steps)"},
    "inputways.packing": {"pack": "(value)", "unpack": "(data)"},
    "inputways.compare": {"parting": "(first, second, inputs, *, steps)", "parting_clauses": "(first, second, inputs, *, steps)",
                          "check_parting": "(first, second, inputs, value, *, steps)",
                          "least": "(program, item, inputs, *, steps)", "below_clauses": "(program, item, row, *, steps)",
                          "check_least": "(program, item, inputs, value, *, steps)"},
}
CLASSES = {"inputways.errors": {"WaysError": {}, "TextError": {}, "PackError": {}},
           "inputways.pool": {"Pool": {
               "bit": "(self, name)", "both": "(self, x, y)", "either": "(self, x, y)", "unlike": "(self, x, y)",
               "chosen": "(self, c, x, y)", "value": "(self, literal, bits)", "values": "(self, literals, bits)",
               "clauses": "(self, literal)"}},
           "inputways.house": {"House": {
               "__init__": "(self, program, inputs, steps)", "tree": "(self)", "change": "(self, program)",
               "bound": "(self, inputs, steps)", "ways": "(self)", "run": "(self, inputs)", "unmet": "(self)",
               "examples": "(self, item)", "report": "(self)"}}}
VALUES = {"inputways.words": ("PAIRS", "SINGLES"), "inputways.pool": ("NO", "YES")}


PROGRAM = (2, (), (("main", 0, ((0, (), ("return", ("int", 1))),)),))


class InterfaceTest(unittest.TestCase):

    def test_fields(self):
        self.assertEqual(House(PROGRAM, 1, 5).made, 0)
        unrolling = unroll(PROGRAM, 1, 5)
        self.assertIs(type(unrolling.pool), Pool)
        self.assertEqual((unrolling.literal(("block", "main", 0)), unrolling.end_literal("none")), (1, 0))

    def test_functions(self):
        for module, functions in FUNCTIONS.items():
            for name, signature in functions.items():
                found = getattr(importlib.import_module(module), name)
                self.assertTrue(inspect.isfunction(found), name)
                self.assertEqual(found.__module__, module)
                self.assertEqual(str(inspect.signature(found)), signature)

    def test_classes(self):
        for module, classes in CLASSES.items():
            for name, methods in classes.items():
                found = getattr(importlib.import_module(module), name)
                self.assertTrue(inspect.isclass(found), name)
                self.assertEqual(found.__module__, module)
                for method, signature in methods.items():
                    self.assertEqual(str(inspect.signature(vars(found)[method])), signature)

    def test_values(self):
        for module, names in VALUES.items():
            for name in names:
                self.assertTrue(hasattr(importlib.import_module(module), name), name)


if __name__ == "__main__":
    unittest.main()
