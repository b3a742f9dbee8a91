"""The tests of least, below_clauses and check_least of inputways.compare: promise [14.3]."""

import copy
import unittest

from chance import Maker, TakingMaker
from inputways.compare import below_clauses, check_least, least
from inputways.refuter import refutes
from inputways.runs import items_of
from inputways.solver import solve
from inputways.text import read_program
from plain_clauses import is_clause
from plain_trees import all_inputs
from plain_unrolling import all_runs
from samples import ODD_VALUES
from test_reach import NARROW
from test_unrolling import ARRAYS, DEEP, LOOP, TAKES, TWICE
from watching import deepest_calls

PLAIN = read_program("width 3\nprocedure main 0\nblock 0\nv0 = take\nv1 = take\nif (v1 less v0) 1 2\nblock 1\n"
                     "if (v0 equal (v1 add 3)) 3 2\nblock 2\nreturn 0\nblock 3\nassert 5 (v0 less 4)\nreturn 1\n")


class LeastTest(unittest.TestCase):

    def compare(self, program, count, steps):
        """Compare the least inputs of each item with the runs of all inputs; return how many items have some."""
        runs = all_runs(program, count, steps)
        many = 0
        for item in items_of(program):
            rows = [row for row, run in runs.items() if item in run.met()]
            value = least(program, item, count, steps=steps)
            if not rows:
                self.assertIsNone(value)
                self.assertIs(check_least(program, item, count, value, steps=steps), False)
                continue
            self.assertEqual((type(value), len(value)), (tuple, 2))
            self.assertEqual(value[0], min(rows), item)
            self.assertIs(type(value[0]), tuple)
            self.assertTrue(all(type(x) is int for x in value[0]))
            self.assertTrue(refutes(below_clauses(program, item, value[0], steps=steps), value[1]))
            self.assertIs(check_least(program, item, count, value, steps=steps), True)
            many += 1
        return many

    def test_small_programs(self):
        for text, count in ((DEEP, 1), (TWICE, 2), (ARRAYS, 2), (TAKES, 3), (LOOP, 1)):
            program = read_program(text)
            for steps in (0, 1, 3, 6, 12 if text == TWICE else 30):
                self.compare(program, count, steps)
            self.compare(program, 0, 12)
        for count in (0, 1, 2, 3):
            self.compare(PLAIN, count, 9)
            self.compare(NARROW, count, 9)

    def test_words_that_stand_first_count_most(self):
        self.assertEqual(least(PLAIN, ("block", "main", 1), 2, steps=9)[0], (1, 0))
        self.assertEqual(least(PLAIN, ("block", "main", 3), 2, steps=9)[0], (3, 0))
        self.assertEqual(least(PLAIN, ("broken", 5), 2, steps=9)[0], (4, 1))
        self.assertEqual(least(PLAIN, ("broken", 5), 3, steps=9)[0], (4, 1, 0))
        self.assertEqual(least(PLAIN, ("edge", "main", 0, 2), 2, steps=9)[0], (0, 0))
        self.assertEqual(least(PLAIN, ("edge", "main", 1, 2), 2, steps=9)[0], (1, 0))

    def test_no_inputs(self):
        self.assertEqual(least(PLAIN, ("block", "main", 0), 0, steps=9)[0], ())
        self.assertEqual(least(PLAIN, ("block", "main", 2), 0, steps=9)[0], ())
        self.assertIsNone(least(PLAIN, ("block", "main", 1), 0, steps=9))
        self.assertIsNone(least(PLAIN, ("block", "main", 0), 0, steps=0))
        self.assertTrue(check_least(PLAIN, ("block", "main", 2), 0, ((), ((),)), steps=9))
        self.assertFalse(check_least(PLAIN, ("block", "main", 1), 0, ((), ((),)), steps=9))

    def test_an_item_that_the_program_has_not(self):
        for item in (("block", "main", 9), ("broken", 4), ("deep", "main", 0, 0)):
            self.assertIsNone(least(PLAIN, item, 2, steps=9))

    def test_narrow_items_of_wide_words(self):
        program = read_program("width 16\nprocedure main 0\nblock 0\nv0 = take\nv1 = take\nassert 1 ((v0 mul 24243) equal 12345)\n"
                               "assert 2 ((v1 and 4369) equal 4368)\nassert 3 ((v0 add v1) less 40000)\nreturn 0\n")
        x = [x for x in range(2 ** 16) if x * 24243 % 2 ** 16 == 12345][0]
        for item, good in ((("broken", 1), lambda x, y: x * 24243 % 2 ** 16 != 12345),
                           (("broken", 2), lambda x, y: y & 4369 != 4368),
                           (("broken", 3), lambda x, y: y & 4369 == 4368 and (x + y) % 2 ** 16 >= 40000)):
            value = least(program, item, 2, steps=9)
            first = 0 if item == ("broken", 1) else x
            self.assertEqual(value[0], (first, min(y for y in range(2 ** 16) if good(first, y))))
            self.assertTrue(check_least(program, item, 2, value, steps=9))

    def test_programs_by_chance(self):
        many = 0
        for seed in range(60):
            many += self.compare(Maker(seed).program(), seed % 3, seed % 15)
        for seed in range(60):
            many += self.compare(TakingMaker(seed, width=1 + seed % 3, blocks=9, body=1 + seed % 4).program(), 2, 3 + seed % 18)
        self.assertGreater(many, 300)


class BelowTest(unittest.TestCase):

    def test_some_filling_keeps_them_just_where_lesser_inputs_meet_the_item(self):
        runs = all_runs(PLAIN, 2, 9)
        for item in items_of(PLAIN):
            rows = [row for row, run in runs.items() if item in run.met()]
            for row in all_inputs(PLAIN, 2):
                clauses = below_clauses(PLAIN, item, row, steps=9)
                self.assertIs(type(clauses), tuple)
                self.assertTrue(all(is_clause(clause) for clause in clauses))
                expected = any(other < row for other in rows)
                self.assertEqual(solve(clauses)[0], "yes" if expected else "no", (item, row))

    def test_no_inputs(self):
        for item in items_of(PLAIN):
            self.assertEqual(solve(below_clauses(PLAIN, item, (), steps=9))[0], "no")


class CheckTest(unittest.TestCase):

    def check(self, item, value, expected, program=PLAIN, count=2, steps=9):
        self.assertIs(check_least(program, item, count, value, steps=steps), expected, (item, value))

    def test_inputs_that_are_not_the_least(self):
        runs = all_runs(PLAIN, 2, 9)
        for item in items_of(PLAIN):
            right = least(PLAIN, item, 2, steps=9)
            for row in all_inputs(PLAIN, 2):
                for refutation in ((right or (None, ((),)))[1], ((),), ((1,), ()), ((-1,), ())):
                    expected = item in runs[row].met() and refutes(below_clauses(PLAIN, item, row, steps=9), refutation)
                    self.assertTrue(not expected or row == right[0])
                    self.check(item, (row, refutation), expected)

    def test_refutations_with_a_row_left_out(self):
        item = ("broken", 5)
        row, refutation = least(PLAIN, item, 2, steps=9)
        clauses = below_clauses(PLAIN, item, row, steps=9)
        self.check(item, (row, refutation), True)
        refused = 0
        for k in range(len(refutation)):
            rows = refutation[:k] + refutation[k + 1:]
            expected = refutes(clauses, rows)
            refused += not expected
            self.check(item, (row, rows), expected)
        self.assertGreater(refused, 0)
        self.check(item, (row, list(refutation)), False)
        self.check(item, [row, refutation], False)
        self.check(item, (list(row), refutation), False)
        self.check(item, (row, refutation, 0), False)
        self.check(item, (refutation, row), False)
        self.check(("block", "main", 2), (row, refutation), False)

    def test_inputs_that_are_none(self):
        item = ("block", "main", 0)
        self.check(item, ((0, 0), ((),)), True)
        for row in ((), (0,), (0, 0, 0), (8, 0), (0, 8), (-1, 0), (True, 0), (0, False), (None, 0), ("0", 0), [0, 0], 0, None, "00", (0.0, 0)):
            self.check(item, (row, ((),)), False)
        self.check(item, ((0, 0), ((),)), False, count=3)
        self.check(item, ((0, 0, 0), ((),)), True, count=3)
        self.check(item, ((0, 0), ((),)), False, steps=0)

    def test_plain_values(self):
        right = least(PLAIN, ("broken", 5), 2, steps=9)
        for value in ODD_VALUES + (right[0], right[1], (right,), (right[0],), (right[0], None), (right[0], 0), (right[0], "x"), (right[0], ()),
                                   (right[0], ((0,), ())), (right[0], (None, ())), (None, right[1]), (0, right[1]), ("met", right[0]),
                                   ("met", right[0], right[1])):
            self.check(("broken", 5), value, False)

    def test_values_that_nest_deep(self):
        deep = ()
        for _ in range(20000):
            deep = (deep,)
        for value in (deep, ((4, 1), deep), (deep, ((),)), ((4, 1), (deep, ()))):
            self.check(("broken", 5), value, False)

    def test_no_function_is_open_more_than_100_times(self):
        program = read_program(DEEP)
        value = least(program, ("deep", "f", 1, 0), 1, steps=60)
        self.assertEqual(value[0], (11,))
        self.assertLessEqual(deepest_calls(lambda: least(program, ("deep", "f", 1, 0), 1, steps=60)), 100)
        self.assertLessEqual(deepest_calls(lambda: check_least(program, ("deep", "f", 1, 0), 1, value, steps=60)), 100)

    def test_nothing_that_is_passed_in_is_changed(self):
        value = least(PLAIN, ("broken", 5), 2, steps=9)
        kept = copy.deepcopy((PLAIN, value))
        below_clauses(PLAIN, ("broken", 5), value[0], steps=9)
        check_least(PLAIN, ("broken", 5), 2, value, steps=9)
        rows = [list(value[0]), list(value[1])]
        check_least(PLAIN, ("broken", 5), 2, rows, steps=9)
        self.assertEqual(rows, [list(value[0]), list(value[1])])
        self.assertEqual((PLAIN, value), kept)


class BoundsTest(unittest.TestCase):

    def test_six_inputs_of_wide_words(self):
        text = "width 16\narray a 8\nprocedure main 0\nblock 0\n" + "".join(f"v0 = take\na[{k}] = v0\n" for k in range(6)) \
            + "go 1\nblock 1\nif (a[v2] less a[(v2 add 1)]) 2 5\nblock 2\nv3 = (v3 add a[v2])\nv2 = (v2 add 1)\n" \
            + "if (v2 less 5) 1 3\nblock 3\nif (v3 equal 12345) 4 5\nblock 4\nreturn 1\nblock 5\nreturn 0\n"
        program = read_program(text)
        value = least(program, ("block", "main", 4), 6, steps=60)
        # Five words that ascend with so much as their sum, and one more above them.
        self.assertEqual(value[0], (0, 1, 2, 3, 12339, 12340))
        self.assertTrue(check_least(program, ("block", "main", 4), 6, value, steps=60))


if __name__ == "__main__":
    unittest.main()
