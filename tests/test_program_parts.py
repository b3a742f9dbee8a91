"""The tests of statements and expressions within program_faults, and of what holds of everything."""

import copy
import unittest

from inputways.programs import program_faults
from inputways.words import PAIRS, SINGLES, top
from samples import (FIRST, HELPERS, MAIN, ODD_VALUES, ONE, nested, nested_cells, nested_left, nested_right,
                     with_body, with_end)
from watching import deepest_calls


def places_of(expression):
    """A pair of a program and the code for it, for each place at which an expression may stand."""
    return (
        (with_body(("set", 0, expression)), "statement"),
        (with_body(("put", expression)), "statement"),
        (with_body(("store", "cells", expression, ONE)), "statement"),
        (with_body(("store", "cells", ONE, expression)), "statement"),
        (with_body(("assert", 0, expression)), "statement"),
        (with_body(("call", 0, "helper", (expression, ONE))), "statement"),
        (with_body(("call", 0, "helper", (ONE, expression))), "statement"),
        (with_end(("if", expression, 1, 999)), "end"),
        (with_end(("return", expression)), "end"),
    )


class PartsCase(unittest.TestCase):

    def check_statement(self, statement, good):
        expected = [] if good else [(FIRST, "statement")]
        self.assertEqual(program_faults(with_body(statement)), expected, statement)

    def check_expression(self, expression, good):
        for program, code in places_of(expression):
            expected = [] if good else [(FIRST, code)]
            self.assertEqual(program_faults(program), expected, (expression, code))


class StatementsTest(PartsCase):

    def test_variables(self):
        for v in (0, 1, 20, 39):
            for statement in (("set", v, ONE), ("take", v), ("call", v, "alone", ())):
                self.check_statement(statement, True)
        for v in (-1, 40, 10 ** 30, True, False, None, "0", (0,), [0], ()):
            for statement in (("set", v, ONE), ("take", v), ("call", v, "alone", ())):
                self.check_statement(statement, False)

    def test_numbers_of_assertions(self):
        for k in (0, 1, 50, 99):
            self.check_statement(("assert", k, ONE), True)
        for k in (-1, 100, 10 ** 30, True, False, None, "0", (0,), [0], ()):
            self.check_statement(("assert", k, ONE), False)

    def test_arrays_of_a_store(self):
        for a in ("cells", "table"):
            self.check_statement(("store", a, ONE, ONE), True)
        for a in ("cell", "other", "helper", "main", "", None, 0, True, ("cells",), ["cells"], ()):
            self.check_statement(("store", a, ONE, ONE), False)

    def test_procedures_of_a_call(self):
        self.check_statement(("call", 0, "alone", ()), True)
        self.check_statement(("call", 0, "helper", (ONE, ONE)), True)
        for p in ("main", "other", "cells", "", None, 0, True, ("alone",), ["alone"], (), []):
            self.check_statement(("call", 0, p, ()), False)

    def test_arguments_of_a_call(self):
        for name, count in (("alone", 0), ("helper", 2)):
            for many in range(5):
                self.check_statement(("call", 0, name, (ONE,) * many), many == count)
        for parts in ([], [ONE, ONE], None, "", "ab", 0, ONE, (ONE, None), (None, ONE), (ONE, 1), (ONE, list(ONE))):
            self.check_statement(("call", 0, "helper", parts), False)
        self.check_statement(("call", 0, "alone", []), False)
        self.check_statement(("call", 0, "alone", None), False)

    def test_a_list_in_the_place_of_a_statement(self):
        for statement in (("set", 0, ONE), ("take", 0), ("put", ONE), ("store", "cells", ONE, ONE),
                          ("assert", 0, ONE), ("call", 0, "alone", ())):
            self.check_statement(statement, True)
            self.check_statement(list(statement), False)

    def test_too_few_and_too_many_parts(self):
        for statement in (("set", 0, ONE), ("take", 0), ("put", ONE), ("store", "cells", ONE, ONE),
                          ("assert", 0, ONE), ("call", 0, "alone", ()), ("call", 0, "helper", (ONE, ONE))):
            for many in range(len(statement)):
                self.check_statement(statement[:many], False)
            for more in (ONE, 0, None, "cells", ()):
                self.check_statement(statement + (more,), False)

    def test_other_first_words(self):
        for head in ("give", "", "int", "go", "return", "if", None, 0, True, ("put",), ["put"]):
            for parts in ((ONE,), (0,), (0, ONE), ("cells", ONE, ONE), (0, "alone", ()), (ONE, 1, 999)):
                self.check_statement((head,) + parts, False)

    def test_words_of_other_lengths(self):
        for statement in (("put", 0), ("take", ONE), ("set", ONE), ("assert", ONE), ("store", "cells", ONE),
                          ("set", 0, ONE, ONE), ("put", 0, ONE), ("assert", "cells", ONE, ONE), ("take", 0, ONE)):
            self.check_statement(statement, False)


class ExpressionsTest(PartsCase):

    def test_what_is_none(self):
        for value in ODD_VALUES:
            self.check_expression(value, False)

    def test_words_of_each_width(self):
        for width in range(1, 17):
            for n in (0, 1, top(width)):
                self.assertEqual(program_faults(with_body(("put", ("int", n)), width=width)), [], (width, n))
            for n in (-1, top(width) + 1, top(width) * 2 + 1, 2 ** 80):
                self.assertEqual(program_faults(with_body(("put", ("int", n)), width=width)),
                                 [(FIRST, "statement")], (width, n))

    def test_numbers_that_are_no_words(self):
        for n in (True, False, None, "1", (1,), [1], ()):
            self.check_expression(("int", n), False)
            self.check_expression(("neg", ("int", n)), False)
        self.check_expression(("int", 255), True)
        self.check_expression(("int", 256), False)

    def test_variables(self):
        for v in (0, 39):
            self.check_expression(("var", v), True)
        for v in (-1, 40, 10 ** 30, True, False, None, "0", (0,), [0], ()):
            self.check_expression(("var", v), False)

    def test_cells(self):
        self.check_expression(("cell", "cells", ("var", 0)), True)
        self.check_expression(("cell", "table", ("int", 255)), True)
        for a in ("cell", "other", "helper", "main", "", None, 0, True, ("cells",), ["cells"], ()):
            self.check_expression(("cell", a, ONE), False)
        for index in (None, 0, 1, (), ("int", 256), list(ONE)):
            self.check_expression(("cell", "cells", index), False)

    def test_no_cells_without_arrays(self):
        block = (0, (("put", ("cell", "a", ONE)),), ("return", ONE))
        self.assertEqual(program_faults((8, (), (("main", 0, (block,)),))), [((0, 0), "statement")])

    def test_ops_of_two_parts(self):
        for op in PAIRS:
            self.check_expression((op, ONE, ("var", 3)), True)
            for expression in ((op,), (op, ONE), (op, ONE, ONE, ONE), (op, ONE, None), (op, None, ONE), (op, 1, 1),
                               [op, ONE, ONE], (op, list(ONE), ONE), (op, ONE, list(ONE)), (op, ("int", 256), ONE),
                               (op, ONE, ("int", -1))):
                self.check_expression(expression, False)

    def test_ops_of_one_part(self):
        for op in SINGLES:
            self.check_expression((op, ("var", 3)), True)
            for expression in ((op,), (op, ONE, ONE), (op, None), (op, 1), [op, ONE], (op, list(ONE)),
                               (op, ("int", 256))):
                self.check_expression(expression, False)

    def test_other_first_words(self):
        for head in ("plus", "ADD", "", "put", "take", "set", None, 0, True, ("add",), ["add"], PAIRS, ("not",)):
            for parts in ((ONE,), (ONE, ONE), (1,), ("cells", ONE)):
                self.check_expression((head,) + parts, False)

    def test_too_few_and_too_many_parts(self):
        for expression in (("int",), ("int", 1, 1), ("var",), ("var", 0, 0), ("cell",), ("cell", "cells"),
                           ("cell", "cells", ONE, ONE), ["int", 1], ["var", 0], ["cell", "cells", ONE]):
            self.check_expression(expression, False)

    def test_what_only_claims_may_say_is_none(self):
        self.check_expression(("was", 0), False)
        self.check_expression(("gave",), False)


class NestingTest(PartsCase):

    def test_nested_20_deep_and_less(self):
        for depth in (1, 2, 19, 20):
            for expression in (nested(depth), nested(depth, ("var", 0)), nested_left(depth), nested_right(depth),
                               nested_cells(depth)):
                self.check_expression(expression, True)

    def test_nested_deeper(self):
        for depth in (21, 22, 40, 150, 5000):
            for expression in (nested(depth), nested(depth, ("var", 0)), nested_left(depth), nested_right(depth),
                               nested_cells(depth)):
                for program, code in places_of(expression):
                    # No message with the value: Python may not be able to write one so deep.
                    self.assertTrue(program_faults(program) == [(FIRST, code)], (depth, code))

    def test_a_tree_of_some_depth(self):
        value = ONE
        for _ in range(9):
            value = ("add", value, value)
        self.check_expression(value, True)

    def test_other_places_nested_much_deeper(self):
        deep = ()
        for _ in range(5000):
            deep = (deep,)
        listed = []
        for _ in range(5000):
            listed = [listed]
        for odd in (deep, listed):
            self.assertTrue(program_faults(odd) == [((), "form")])
            self.assertTrue(program_faults((odd, odd, odd)) == [((), "form")])
            self.assertTrue(program_faults(with_body(odd)) == [(FIRST, "statement")])
            self.assertTrue(program_faults(with_body(("call", 0, odd, odd))) == [(FIRST, "statement")])
            self.assertTrue(program_faults(with_end(odd)) == [(FIRST, "end")])
            self.assertTrue(program_faults(with_end((odd, odd))) == [(FIRST, "end")])
            value = (8, (), (("main", 0, ((odd, (), ("go", 3)),)),))
            self.assertTrue(program_faults(value) == [((0, 0), "label"), ((0, 0), "target")])


class EverythingTest(unittest.TestCase):

    def test_no_function_is_open_more_than_100_times(self):
        for depth in (20, 21, 100, 5000):
            for expression in (nested(depth), nested_left(depth), nested_right(depth), nested_cells(depth)):
                value = with_body(("put", expression))
                self.assertLessEqual(deepest_calls(lambda: program_faults(value)), 100)

    def test_what_is_passed_in_stands_unchanged(self):
        values = [
            with_body(("put", ONE), ("call", 0, "helper", (ONE, ONE))),
            [8, [["b", 1], ["a", 2]], [list(MAIN)]],
            (8, [("b", 1), ("a", 2)], (MAIN,)),
            (8, (("a", 1),), (("main", 0, ([3, [], ["go", 3]],)),)),
            with_body(["put", ["int", 1]], ("call", 0, "helper", [ONE, ONE]), ("call", [0], ["helper"], [])),
            with_end(["go", 1]),
            (8, (), (MAIN,) + HELPERS),
            (8, (), (("main", 0, (([3], ([2, 1],), ("go", [1, 0])),)),)),
        ]
        for value in values:
            before = copy.deepcopy(value)
            shown = repr(value)
            program_faults(value)
            self.assertEqual(value, before)
            self.assertEqual(repr(value), shown)

    def test_the_same_answer_each_time_in_a_list_of_its_own(self):
        value = with_end(("if", ONE, 0, 2))
        first = program_faults(value)
        expected = list(first)
        first.append("more")
        self.assertEqual(program_faults(value), expected)
        good = program_faults((8, (), (MAIN,)))
        good.append("more")
        self.assertEqual(program_faults((8, (), (MAIN,))), [])
        wrong = program_faults(None)
        wrong.append("more")
        self.assertEqual(program_faults(None), [((), "form")])


if __name__ == "__main__":
    unittest.main()
