"""The tests of are_claims of inputways.claims: promise [11.1]."""

import copy
import unittest

from chance import ClaimMaker
from inputways.claims import are_claims
from inputways.programs import program_faults
from inputways.words import PAIRS, SINGLES
from samples import ODD_VALUES, nested, nested_left, nested_right
from watching import deepest_calls

ONE, VAR, WAS, GAVE = ("int", 1), ("var", 0), ("was", 0), ("gave",)
STOP = ("return", ONE)
PROGRAM = (4, (("cells", 3),), (
    ("alone", 0, ((0, (), STOP),)),
    ("helper", 2, ((7, (), ("go", 3)), (3, (), ("return", VAR)))),
    ("main", 0, ((0, (), ("if", VAR, 1, 2)), (2, (), STOP), (1, (), STOP))),
    ("other", 1, ((1, (), STOP),))))


def rows(*rows):
    return (rows, ())


def row(*values, about=("helper", 3)):
    """Claims about one block."""
    return (((about, values),), ())


def give(*values, about="helper"):
    """Claims about what one procedure returns."""
    return ((), ((about, values),))


class ClaimFormTest(unittest.TestCase):

    def setUp(self):
        self.assertEqual(program_faults(PROGRAM), [])

    def check(self, value, expected):
        self.assertIs(are_claims(PROGRAM, value), expected, value)

    def test_right_claims(self):
        self.check(((), ()), True)
        self.check(row(ONE), True)
        self.check(row(ONE, ONE, VAR), True)
        self.check(give(ONE), True)
        self.check(give(GAVE, ONE, GAVE), True)
        self.check(rows((("alone", 0), (VAR,)), (("helper", 3), (VAR,)), (("helper", 7), (WAS,)), (("main", 0), (ONE,)),
                        (("main", 1), (VAR,)), (("main", 2), (VAR,)), (("other", 1), (WAS,))), True)
        self.check(((), (("alone", (GAVE,)), ("helper", (WAS,)), ("other", (WAS,)))), True)
        self.check(((((("main", 2)), (VAR,)),), (("alone", (GAVE,)),)), True)

    def test_each_kind_of_expression(self):
        for n in (0, 1, 15):
            self.check(row(("int", n)), True)
            self.check(give(("int", n)), True)
        for v in (0, 1, 39):
            self.check(row(("var", v)), True)
        for k in (0, 1):
            self.check(row(("was", k)), True)
            self.check(give(("was", k)), True)
        for op in PAIRS:
            self.check(row((op, VAR, WAS)), True)
            self.check(give((op, GAVE, WAS)), True)
        for op in SINGLES:
            self.check(row((op, VAR)), True)
            self.check(give((op, GAVE)), True)

    def test_expressions_that_are_none(self):
        some = (("int", 16), ("int", -1), ("int", True), ("int", None), ("int",), ("int", 1, 1), ("int", "1"), ("var", 40),
                ("var", -1), ("var", True), ("var", "0"), ("var",), ("was", -1), ("was", True), ("was", False), ("was", None),
                ("was", "0"), ("was",), ("was", 0, 0), ("gave", 0), ("gave", ()), ["gave"], "gave", ("Gave",), (GAVE,),
                ["int", 1], ("add", ONE), ("add", ONE, ONE, ONE), ("not", ONE, ONE), ("not",), ("less", ONE), ("xxx", ONE, ONE),
                ("", ONE), (None, ONE), (ONE, ONE), ("add", ONE, None), ("add", None, ONE), ("not", None), ("add", ONE, ["int", 1]),
                ("if", ONE, 1, 2), ("put", ONE), ("take", 0), ("set", 0, ONE)) + ODD_VALUES
        for value in some:
            for wrong in (value, ("not", value), ("add", value, ONE), ("add", ONE, value)):
                self.check(row(wrong), False)
                self.check(row(ONE, wrong), False)
                self.check(give(wrong), False)
                self.check(give(ONE, wrong), False)

    def test_cells(self):
        for value in (("cell", "cells", ONE), ("cell", "cells", ("int", 0)), ("cell", "none", ONE), ("cell", 0, ONE)):
            for wrong in (value, ("not", value), ("add", ONE, value), ("add", value, ONE)):
                self.check(row(wrong), False)
                self.check(give(wrong), False)

    def test_words_of_arguments(self):
        for about, count in ((("alone", 0), 0), (("helper", 3), 2), (("helper", 7), 2), (("main", 0), 0), (("main", 2), 0),
                             (("other", 1), 1)):
            for k in range(8):
                for value in (("was", k), ("not", ("was", k)), ("add", ONE, ("was", k))):
                    self.check(row(value, about=about), k < count)
                    if about[0] != "main":
                        self.check(give(value, about=about[0]), k < count)

    def test_the_returned_word_in_rows(self):
        for value in (GAVE, ("not", GAVE), ("add", ONE, GAVE), ("add", GAVE, ONE)):
            for about in (("helper", 3), ("helper", 7), ("alone", 0), ("main", 1)):
                self.check(row(value, about=about), False)

    def test_variables_in_gives(self):
        for value in (VAR, ("var", 39), ("not", VAR), ("add", GAVE, VAR), ("add", VAR, GAVE)):
            for about in ("helper", "alone", "other"):
                self.check(give(value, about=about), False)

    def test_gives_of_main(self):
        for value in (ONE, GAVE):
            self.check(give(value, about="main"), False)
            self.check(((), (("helper", (ONE,)), ("main", (value,)))), False)

    def test_labels_and_procedures_that_the_program_has_not(self):
        for about in (("helper", 0), ("helper", 1), ("main", 3), ("main", 7), ("nobody", 0), ("", 0), ("Main", 0), ("cells", 0),
                      ("main", "0"), ("main", None), ("main", True), ("main", False), ("other", True), ("alone", False),
                      (None, 0), (0, 0), ("main",), ("main", 0, 0), ["main", 0], "main", None, (("main", 0), 0), ("main", (0,))):
            self.check(row(ONE, about=about), False)
        for about in ("nobody", "", "cells", None, 0, ("helper",), ["helper"], ("helper", 3), True):
            self.check(give(ONE, about=about), False)

    def test_no_expressions(self):
        self.check(row(), False)
        self.check(give(), False)
        self.check(rows((("helper", 3), (ONE,)), (("helper", 7), ())), False)
        for wrong in (None, ONE, [ONE], "x", 0, {}.get(0), (None,), ((),), ([],)):
            self.check(((((("helper", 3)), wrong),), ()), False)
            self.check(((), (("helper", wrong),)), False)

    def test_rows_that_do_not_ascend(self):
        some = [(("alone", 0), (ONE,)), (("helper", 3), (ONE,)), (("helper", 7), (ONE,)), (("main", 0), (ONE,)),
                (("main", 1), (ONE,)), (("main", 2), (ONE,))]
        for k, first in enumerate(some):
            for m, second in enumerate(some):
                self.check(rows(first, second), k < m)
        self.check(rows(*some), True)
        self.check(rows(*reversed(some)), False)
        # The same block twice, also with other expressions.
        self.check(rows((("helper", 3), (ONE,)), (("helper", 3), (VAR,))), False)
        self.check(rows((("helper", 3), (ONE,)), (("helper", 3), (ONE, ONE))), False)

    def test_gives_that_do_not_ascend(self):
        some = [("alone", (ONE,)), ("helper", (ONE,)), ("other", (ONE,))]
        for k, first in enumerate(some):
            for m, second in enumerate(some):
                self.check(((), (first, second)), k < m)
        self.check(((), tuple(some)), True)
        self.check(((), (("helper", (ONE,)), ("helper", (GAVE,)))), False)

    def test_how_deep_expressions_nest(self):
        for made in (nested, nested_left, nested_right):
            self.check(row(made(20)), True)
            self.check(row(made(21)), False)
            self.check(row(ONE, made(22)), False)
        for leaf in (WAS, ONE, GAVE):
            self.check(give(nested(20, leaf)), True)
            self.check(give(nested(21, leaf)), False)
        self.check(row(nested(20, WAS)), True)
        self.check(row(nested(21, WAS)), False)
        self.check(row(nested(20000)), False)
        self.check(give(nested(20000, GAVE)), False)
        self.assertLessEqual(deepest_calls(lambda: are_claims(PROGRAM, row(nested(20000)))), 100)

    def test_plain_values(self):
        for value in ODD_VALUES + ([(), ()], [[], []], ((),), ((), (), ()), (None, ()), ((), None), ([], ()), ((), []), ("", ()),
                                   ((), ""), (0, 0), (((),), ()), ((), ((),)), ((0,), ()), ((), (0,)), (("ab",), ()),
                                   ((), ("ab",)), ((("helper", 3),), ()), (((("helper", 3)), (ONE,)), ()), (((1, 2),), ()),
                                   ([(("helper", 3), (ONE,))], ()), ((), [("helper", (ONE,))]), ((), (["helper", (ONE,)],)),
                                   (([("helper", 3), (ONE,)],), ()), ((((("helper", 3)), (ONE,), 0),), ()),
                                   ((), (("helper", (ONE,), 0),))):
            expected = value == ((), ()) and type(value) is tuple
            self.check(value, expected)

    def test_claims_by_chance(self):
        for seed in range(200):
            maker = ClaimMaker(seed, width=1 + seed % 3)
            program = maker.program()
            claims = maker.claims(program)
            kept = copy.deepcopy((program, claims))
            self.assertIs(are_claims(program, claims), True)
            self.assertEqual((program, claims), kept)


if __name__ == "__main__":
    unittest.main()
