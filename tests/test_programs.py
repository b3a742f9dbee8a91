"""The tests of program_faults: promises [2.1] to [2.4], each code by itself and with others."""

import unittest

from inputways.programs import program_faults
from inputways.words import PAIRS, SINGLES
from samples import (ARRAYS, FIRST, HELPERS, MAIN, ODD_VALUES, ONE, PLAIN_END, with_body, with_end,
                     with_main)

FORM = [((), "form")]
NAME = [((), "name")]


class FaultsCase(unittest.TestCase):

    def check(self, value, expected):
        got = program_faults(value)
        self.assertIs(type(got), list, value)
        self.assertEqual(got, expected, value)
        for row in got:
            self.assertIs(type(row), tuple)
            self.assertIs(type(row[0]), tuple)


class NoFaultsTest(FaultsCase):

    def test_the_least_program(self):
        self.check((1, (), (MAIN,)), [])

    def test_each_statement_and_each_end(self):
        body = (
            ("set", 0, ("var", 39)),
            ("take", 39),
            ("put", ("cell", "cells", ("cell", "table", ("int", 0)))),
            ("store", "table", ("int", 255), ("neg", ("var", 3))),
            ("assert", 0, ("int", 0)),
            ("assert", 99, ("less", ("var", 1), ("int", 9))),
            ("call", 2, "alone", ()),
            ("call", 2, "helper", (ONE, ("equal", ONE, ONE))),
        )
        self.check(with_main((
            (3, body, ("go", 0)),
            (0, (), ("if", ("var", 0), 999, 998)),
            (998, body, ("if", ("var", 0), 0, 0)),
            (999, (), ("return", ("xor", ("var", 0), ("var", 1)))),
        )), [])

    def test_each_op(self):
        for op in PAIRS:
            self.check(with_body(("put", (op, ("var", 0), ONE))), [])
        for op in SINGLES:
            self.check(with_body(("put", (op, ("var", 0)))), [])

    def test_a_procedure_may_call_itself(self):
        again = ("again", 1, ((0, (("call", 1, "again", (("var", 0),)),), PLAIN_END),))
        self.check((8, (), (again, MAIN)), [])

    def test_blocks_may_lead_to_themselves_and_back(self):
        self.check(with_main(((5, (), ("go", 6)), (6, (), ("if", ONE, 6, 7)), (7, (), ("go", 6)))), [])

    def test_one_label_in_two_procedures(self):
        self.check((8, (), (("a", 0, ((4, (), PLAIN_END),)), ("main", 0, ((4, (), PLAIN_END),)))), [])

    def test_more_than_the_bounds_is_no_fault(self):
        names = ("a", "b", "c", "d", "e", "f", "g", "h")
        arrays = tuple((name, 1) for name in names)
        body = (("take", 0),) * 50
        blocks = tuple((k, body, PLAIN_END) for k in range(60))
        helpers = tuple((name, 6, blocks) for name in names + ("i", "j"))
        self.check((16, arrays, helpers + (("main", 0, blocks),)), [])

    def test_an_array_and_a_procedure_of_one_name(self):
        self.check((8, (("main", 1), ("p", 2)), (MAIN, ("p", 0, MAIN[2]))), [])


class FormTest(FaultsCase):

    def test_values_that_are_no_programs(self):
        for value in ODD_VALUES:
            self.check(value, FORM)
        self.check("abc", FORM)
        self.check((8, ()), FORM)
        self.check((8, (), (MAIN,), ()), FORM)

    def test_a_list_in_the_place_of_a_tuple(self):
        self.check([8, (), (MAIN,)], FORM)
        self.check((8, [], (MAIN,)), FORM)
        self.check((8, [("a", 1)], (MAIN,)), FORM)
        self.check((8, (["a", 1],), (MAIN,)), FORM)
        self.check((8, (), [MAIN]), FORM)
        self.check((8, (), (list(MAIN),)), FORM)
        self.check((8, (), (("main", 0, list(MAIN[2])),)), FORM)
        self.check((8, (), (("main", 0, ([0, (), PLAIN_END],)),)), FORM)
        self.check((8, (), (("main", 0, ((0, [], PLAIN_END),)),)), FORM)

    def test_widths(self):
        for width in range(1, 17):
            self.check((width, (), (MAIN,)), [])
        for width in (0, 17, -1, 32, True, False, None, "8", (8,), [8], 2 ** 70):
            self.check((width, (), (MAIN,)), FORM)

    def test_sizes_of_arrays(self):
        for size in range(1, 9):
            self.check((8, (("a", size),), (MAIN,)), [])
        for size in (0, 9, -1, True, None, "1", (1,), [1]):
            self.check((8, (("a", size),), (MAIN,)), FORM)

    def test_arrays_that_are_none(self):
        for arrays in (None, 1, "a", ("a",), (("a",),), (("a", 1, 1),), (("a", 1), ()), (("a", 1), None), ("ab",)):
            self.check((8, arrays, (MAIN,)), FORM)

    def test_names_of_arrays(self):
        for name in ("", "A", "1a", "_a", "add", "not", "array", "v1", "a" * 21, "a b", None, 3, ("a",), ["a"], True):
            self.check((8, ((name, 1),), (MAIN,)), FORM)
        for name in ("a", "main", "v", "z_9", "a" * 20):
            self.check((8, ((name, 1),), (MAIN,)), [])

    def test_arrays_ascend_each_once(self):
        self.check((8, (("a", 8), ("b", 1), ("c", 3)), (MAIN,)), [])
        self.check((8, (("b", 1), ("a", 8)), (MAIN,)), FORM)
        self.check((8, (("a", 1), ("c", 1), ("b", 1)), (MAIN,)), FORM)
        self.check((8, (("a", 1), ("a", 1)), (MAIN,)), FORM)
        self.check((8, (("a", 1), ("a", 2)), (MAIN,)), FORM)
        self.check((8, (("a_", 1), ("aa", 1)), (MAIN,)), [])
        self.check((8, (("a", 1), ("a0", 1)), (MAIN,)), [])
        self.check((8, (("aa", 1), ("a_", 1)), (MAIN,)), FORM)

    def test_procedures_that_are_no_triples(self):
        for row in ODD_VALUES + (("main", 0), MAIN + ((),)):
            self.check((8, (), (row,)), FORM)
            self.check((8, (), (MAIN, row)), FORM)
            self.check((8, (), (row, MAIN)), FORM)

    def test_names_of_procedures_that_are_no_strings(self):
        for name in (None, 1, True, ("main",), ["main"], ()):
            self.check((8, (), ((name, 0, MAIN[2]),)), FORM)

    def test_params(self):
        for count in range(7):
            self.check((8, (), (("f", count, MAIN[2]), MAIN)), [])
        for count in (-1, 7, 8, True, False, None, "0", (), [0]):
            self.check((8, (), (("f", count, MAIN[2]), MAIN)), FORM)

    def test_blocks_that_are_no_triples_with_a_tuple_in_the_middle(self):
        for block in ODD_VALUES + ((0, ()), (0, (), PLAIN_END, 0), (0, None, PLAIN_END), (0, "", PLAIN_END),
                                   (0, 0, PLAIN_END)):
            self.check((8, (), (("main", 0, (block,)),)), FORM)
            self.check((8, (), (("main", 0, (MAIN[2][0], block)),)), FORM)

    def test_a_procedure_has_a_block(self):
        self.check((8, (), (("main", 0, ()),)), FORM)
        self.check((8, (), (MAIN, ("p", 0, ()))), FORM)
        self.check((8, (), (("main", 0, None),)), FORM)
        self.check((8, (), (("main", 0, "abc"),)), FORM)

    def test_nothing_else_is_looked_at(self):
        bad = ("B", 0, ((-1, (None,), None), (-1, (), ("go", 5))))
        self.check((0, (), (bad, bad)), FORM)
        self.check((8, (("a", 9),), (bad,)), FORM)
        self.check((8, (), (bad, ("main", 7, MAIN[2]))), FORM)
        self.check((8, (), (bad, ("main", 0, ()))), FORM)
        self.check((8, (), ()), NAME)


class NameTest(FaultsCase):

    def check_name(self, name, expected):
        procedures = sorted([(name, 0, MAIN[2]), MAIN])
        self.check((8, (), tuple(procedures)), expected)

    def test_names(self):
        for name in ("a", "z", "a0", "a_", "zz9_", "q" * 20, "v", "va", "v_", "v1a", "v_1", "vv1", "int", "var",
                     "cell", "set", "store", "call", "width1", "ifs", "adds", "mainly", "vi", "abcdefghijklmnopqrst",
                     "nopqrstuvwxyz", "x0123456789"):
            self.check_name(name, [])

    def test_strings_that_are_no_names(self):
        for name in ("", "A", "aB", "1", "1a", "_", "_a", "a b", "a-b", "a.", " a", "a ", "a\n", "\u00e4", "a\u00e9",
                     "a\u0663", "v\u0663", "q" * 21, "q" * 200, "v0", "v1", "v39", "v40", "v007", "v" + "1" * 19):
            self.check_name(name, NAME)

    def test_ops_and_words_of_the_text_are_no_names(self):
        for name in PAIRS + SINGLES:
            self.check_name(name, NAME)
        for name in ("width", "array", "procedure", "block", "put", "take", "assert", "go", "if", "return"):
            self.check_name(name, NAME)

    def test_names_ascend_each_once(self):
        a, b, z = (("a", 0, MAIN[2]), ("b", 0, MAIN[2]), ("z", 0, MAIN[2]))
        self.check((8, (), (a, b, MAIN, z)), [])
        self.check((8, (), (b, a, MAIN, z)), NAME)
        self.check((8, (), (a, MAIN, b)), NAME)
        self.check((8, (), (z, MAIN)), NAME)
        self.check((8, (), (MAIN, MAIN)), NAME)
        self.check((8, (), (a, a, MAIN)), NAME)
        self.check((8, (), (a, ("a", 1, MAIN[2]), MAIN)), NAME)

    def test_main_is_there_without_params(self):
        self.check((8, (), ()), NAME)
        self.check((8, (), (("a", 0, MAIN[2]),)), NAME)
        for count in (1, 2, 6):
            self.check((8, (), (("main", count, MAIN[2]),)), NAME)
        self.check((8, (), (("a", 0, MAIN[2]), ("main", 1, MAIN[2]))), NAME)
        self.check((8, (), (("mai", 0, MAIN[2]), ("mainx", 0, MAIN[2]))), NAME)

    def test_the_code_is_said_once(self):
        self.check((8, (), (("v1", 0, MAIN[2]), ("V", 0, MAIN[2]), ("V", 3, MAIN[2]))), NAME)

    def test_blocks_are_looked_at_beside_it(self):
        blocks = ((0, (("put", None),), ("go", 0)), (0, (), None), (-1, (), ("go", 4)))
        self.check((8, (), (("B", 0, blocks),)), [
            ((), "name"), ((0, 0), "entry"), ((0, 0), "statement"), ((0, 1), "end"), ((0, 1), "twice"),
            ((0, 2), "label"), ((0, 2), "target")])

    def test_nothing_is_said_of_calls_beside_it(self):
        calls = (("call", 0, "nowhere", ()), ("call", 0, "a", ()), ("call", 0, "main", ()), ("call", 40, "a", (ONE,)),
                 ("call", 0, "a", (None,)), ("call", 0, None, None))
        for call in calls:
            blocks = ((0, (call,), PLAIN_END),)
            self.check((8, (), (("a", 1, MAIN[2]), ("main", 0, blocks))), [((1, 0), "statement")])
            self.check((8, (), (("a", 1, MAIN[2]), ("main", 1, blocks))), NAME)
            self.check((8, (), (("main", 0, blocks), ("a", 1, MAIN[2]))), NAME)
            self.check((8, (), (("a", 1, MAIN[2]), ("a", 2, MAIN[2]), ("main", 0, blocks))), NAME)

    def test_other_statements_are_looked_at_beside_it(self):
        call = ("call", 0, "nowhere", ())
        for item in (("take", 40), ("put", ("int", 256)), None, ["call", 0, "a", ()], "call", ("calls",), ()):
            self.check((8, (), (("B", 0, ((0, (call, item, call), PLAIN_END),)),)),
                       [((), "name"), ((0, 0), "statement")])


class BlockCodesTest(FaultsCase):

    def test_labels(self):
        for label in (0, 1, 500, 999):
            self.check(with_main(((label, (), PLAIN_END),)), [])
        for label in (-1, 1000, 10 ** 30, True, False, None, "0", "", (), (0,), [], [0]):
            self.check(with_main(((label, (), PLAIN_END),)), [(FIRST, "label")])
            self.check(with_main(((2, (), PLAIN_END), (label, (), PLAIN_END))), [((2, 1), "label")])

    def test_a_label_twice(self):
        def blocks(*labels):
            return with_main(tuple((label, (), PLAIN_END) for label in labels))
        self.check(blocks(3, 3), [((2, 1), "twice")])
        self.check(blocks(3, 4, 3), [((2, 2), "twice")])
        self.check(blocks(3, 4, 4, 3, 3), [((2, 2), "twice"), ((2, 3), "twice"), ((2, 4), "twice")])
        self.check(blocks(0, 999, 998), [])
        self.check(blocks(2, 1, 0), [])

    def test_twice_is_not_said_of_a_label_that_is_none(self):
        for label in (-1, 1000, True, False, None, "0", (), [], [0], (0,)):
            block = (label, (), PLAIN_END)
            self.check(with_main((block, block)), [((2, 0), "label"), ((2, 1), "label")])

    def test_true_and_false_are_not_the_labels_1_and_0(self):
        for odd, label in ((True, 1), (False, 0)):
            block, other = ((odd, (), PLAIN_END), (label, (), PLAIN_END))
            self.check(with_main((block, other)), [((2, 0), "label")])
            self.check(with_main((other, block)), [((2, 1), "label")])
            self.check(with_main(((5, (), ("go", label)), block)), [((2, 0), "target"), ((2, 1), "label")])
            self.check(with_main(((odd, (), PLAIN_END), (5, (), ("go", label)))),
                       [((2, 0), "label"), ((2, 1), "target")])

    def test_statements_that_are_none(self):
        for item in ODD_VALUES:
            self.check(with_body(item), [(FIRST, "statement")])
            self.check(with_body(("take", 0), item, ("put", ONE)), [(FIRST, "statement")])

    def test_the_code_statement_is_said_once_of_a_block(self):
        self.check(with_body(None, ("take", 0), None, ("take", -1)), [(FIRST, "statement")])

    def test_ends_that_are_none(self):
        for end in ODD_VALUES:
            self.check(with_end(end), [(FIRST, "end")])
        for end in (("go",), ("go", 1, 1), ("go", 1000), ("go", -1), ("go", True), ("go", None), ("go", "1"),
                    ["go", 1], ("goto", 1), ("go", (1,)), ("go", [1]), ("if", ONE, 1), ("if", ONE, 1, 1, 1),
                    ("if", ONE, 1, 1000), ("if", ONE, -1, 1), ("if", ONE, True, 1), ("if", ONE, 1, None),
                    ["if", ONE, 1, 1], ("if", 1, 1, 1), ("if", 1, 1), ("return",), ("return", ONE, ONE),
                    ("return", 1), ["return", ONE], ("return", ["int", 1]), ("return", None), ("int", 1),
                    ("put", ONE), ("take", 0), ("when", ONE, 1, 1), ("give", ONE), (None, ONE), (["go"], 1)):
            self.check(with_end(end), [(FIRST, "end")])

    def test_targets(self):
        for end in (("go", 1), ("go", 999), ("if", ONE, 1, 999), ("if", ONE, 999, 999)):
            self.check(with_end(end), [])
        for end in (("go", 2), ("go", 998), ("if", ONE, 2, 1), ("if", ONE, 1, 2), ("if", ONE, 2, 2), ("if", ONE, 2, 3)):
            self.check(with_end(end), [(FIRST, "target")])

    def test_a_target_stands_in_the_same_procedure(self):
        other = ("f", 0, ((0, (), PLAIN_END), (1, (), PLAIN_END)))
        self.check((8, (), (other, ("main", 0, ((0, (), ("go", 1)),)))), [((1, 0), "target")])

    def test_a_target_may_stand_ahead_or_behind(self):
        self.check(with_main(((0, (), ("go", 2)), (1, (), PLAIN_END), (2, (), ("go", 1)))), [])

    def test_the_entry_is_no_target(self):
        for end in (("go", 0), ("if", ONE, 0, 1), ("if", ONE, 1, 0), ("if", ONE, 0, 0)):
            self.check(with_end(end), [(FIRST, "entry")])
        self.check(with_main(((4, (), ("go", 5)), (5, (), ("go", 4)))), [((2, 1), "entry")])
        self.check(with_main(((4, (), ("go", 4)),)), [((2, 0), "entry")])

    def test_the_entry_by_a_label_that_stands_twice(self):
        self.check(with_main(((4, (), PLAIN_END), (4, (), PLAIN_END), (5, (), ("go", 4)))),
                   [((2, 1), "twice"), ((2, 2), "entry")])

    def test_target_and_entry_together(self):
        for end in (("if", ONE, 0, 2), ("if", ONE, 2, 0)):
            self.check(with_end(end), [(FIRST, "entry"), (FIRST, "target")])

    def test_target_and_entry_are_not_told_of_an_end_that_is_none(self):
        for end in (("if", None, 0, 2), ("if", ONE, 0, -1), ("if", ONE, 2, 1000), ("if", ("int", 256), 2, 0),
                    ("go", 0, 2), ["go", 2], ["go", 0]):
            self.check(with_end(end), [(FIRST, "end")])

    def test_an_entry_with_a_label_that_is_none(self):
        self.check(with_main(((-1, (), ("go", 1)), (1, (), ("go", 1)))), [((2, 0), "label")])
        self.check(with_main(((-1, (), ("go", -1)),)), [((2, 0), "end"), ((2, 0), "label")])


class TogetherTest(FaultsCase):

    def test_all_codes_of_a_block(self):
        blocks = (
            (0, (None,), ("if", ONE, 0, 5)),
            (0, (None, ["take", 0]), ("if", ONE, 5, 0)),
            (1000, (("take", 0), ("take", 40)), ("go", 1000)),
        )
        self.check(with_main(blocks), [
            ((2, 0), "entry"), ((2, 0), "statement"), ((2, 0), "target"),
            ((2, 1), "entry"), ((2, 1), "statement"), ((2, 1), "target"), ((2, 1), "twice"),
            ((2, 2), "end"), ((2, 2), "label"), ((2, 2), "statement")])

    def test_several_procedures_with_a_wrong_name(self):
        blocks = ((0, (), ("go", 0)), (-1, ((),), ("go", 77)))
        self.check((8, ARRAYS, (("main", 0, blocks), ("add", 0, blocks))), [
            ((), "name"), ((0, 0), "entry"), ((0, 1), "label"), ((0, 1), "statement"), ((0, 1), "target"),
            ((1, 0), "entry"), ((1, 1), "label"), ((1, 1), "statement"), ((1, 1), "target")])

    def test_paths_ascend_as_numbers(self):
        good = tuple((k, (), PLAIN_END) for k in range(12))
        bad = good[:2] + ((2, (None,), PLAIN_END),) + good[3:10] + ((10, (None,), PLAIN_END), (11, (), ("go", 12)))
        names = tuple((chr(ord("a") + k), 0, bad if k in (2, 11) else good) for k in range(12))
        self.check((8, (), names + (("main", 0, good),)), [
            ((2, 2), "statement"), ((2, 10), "statement"), ((2, 11), "target"),
            ((11, 2), "statement"), ((11, 10), "statement"), ((11, 11), "target")])

    def test_helpers_are_looked_at_as_main_is(self):
        wrong = ("alone", 0, ((0, (("take", 40),), ("go", 0)),))
        self.check((8, ARRAYS, (wrong, HELPERS[1], MAIN)), [((0, 0), "entry"), ((0, 0), "statement")])


if __name__ == "__main__":
    unittest.main()
