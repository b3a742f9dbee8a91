"""The tests of inputways.reach: promises [10.1] to [10.3], and [0.1] (2)."""

import copy
import unittest

from chance import Maker, TakingMaker
from inputways.reach import check_reach, item_clauses, reach
from inputways.refuter import refutes
from inputways.runs import items_of, met
from inputways.solver import solve
from inputways.text import read_program
from inputways.unrolling import unroll
from plain_clauses import is_clause
from plain_runs import PlainRun
from plain_trees import all_inputs
from plain_unrolling import all_runs
from samples import ODD_VALUES
from test_unrolling import ARRAYS, DEEP, LOOP, TAKES, TWICE
from watching import deepest_calls

# Block 3 is begun by none, and no assertion but 2 is broken; so much is only seen by arithmetic.
NARROW = read_program("width 3\nprocedure main 0\nblock 0\nv0 = take\nv1 = take\nassert 1 ((v0 mul v0) less 5)\n"
                      "assert 2 (v0 add v1)\nif ((v0 xor v1) equal ((v0 or v1) sub (v0 and v1))) 1 3\nblock 1\nreturn v0\n"
                      "block 3\nassert 3 0\nreturn 1\n")
PLAIN_VALUES = ODD_VALUES + (
    ("met",), ("never",), ("met", None), ("never", None), ("met", 0), ("never", 0), ("never", ()), ("never", "x"), ("met", "x"),
    ("met", (0, 0), 0), ("never", ((),), 0), ("Met", (0, 0)), (None, (0, 0)), (0, ((),)), ("", ()), (("met",), (0, 0)),
    ("apart", (0, 0)), ("alike", ((),)), ("yes", (0, 0)), ("no", ((),)), ("met", ((0, 0),)), ("met", (0, (0,))),
    ("met", (None, 0)), ("met", ("0", "0")), ("never", ((), 1)), ("never", (0,)), ("never", ((0,), ())), ("never", (None, ())))


class ReachTest(unittest.TestCase):

    def compare(self, program, count, steps):
        """Compare the answer for each item with the runs of all inputs; return the items that some of them meet."""
        runs = all_runs(program, count, steps)
        found = {item for run in runs.values() for item in run.met()}
        for item in items_of(program):
            value = reach(program, item, count, steps=steps)
            self.assertIs(type(value), tuple)
            self.assertEqual((len(value), value[0]), (2, "met" if item in found else "never"), item)
            if item in found:
                self.assertIs(type(value[1]), tuple)
                self.assertTrue(all(type(x) is int for x in value[1]))
                self.assertIn(item, runs[value[1]].met())
            else:
                self.assertTrue(refutes(item_clauses(program, item, count, steps=steps), value[1]))
            self.assertIs(check_reach(program, item, count, value, steps=steps), True)
        return found

    def test_small_programs(self):
        for text, count in ((DEEP, 1), (TWICE, 2), (ARRAYS, 2), (TAKES, 3), (LOOP, 1)):
            program = read_program(text)
            for steps in (0, 1, 3, 6, 14 if text == TWICE else 30):
                self.compare(program, count, steps)
            self.compare(program, 0, 30)
        self.compare(NARROW, 2, 9)
        self.compare(NARROW, 3, 9)

    def test_programs_by_chance(self):
        for seed in range(120):
            self.compare(Maker(seed).program(), seed % 3, seed % 15)
        for seed in range(40):
            self.compare(Maker(seed + 300, width=1 + seed % 3, blocks=6, body=5, depth=3).program(), 2, 3 + seed % 14)
        for seed in range(60):
            self.compare(TakingMaker(seed, width=1 + seed % 3, blocks=9, body=1 + seed % 4).program(), 2, 3 + seed % 18)

    def test_an_item_that_just_one_row_meets(self):
        program = read_program("width 16\nprocedure main 0\nblock 0\nv0 = take\nv1 = take\nif ((v0 mul 24243) equal 12345) 1 2\n"
                               "block 1\nassert 8 (v1 less 50000)\nif (v1 equal (v0 xor 257)) 3 2\nblock 2\nreturn 0\n"
                               "block 3\nreturn 1\n")
        x = [x for x in range(2 ** 16) if x * 24243 % 2 ** 16 == 12345][0]
        self.assertLess(x ^ 257, 50000)
        self.assertEqual(reach(program, ("block", "main", 3), 2, steps=9), ("met", (x, x ^ 257)))
        value = reach(program, ("broken", 8), 2, steps=9)
        self.assertEqual(value[1][0], x)
        self.assertGreaterEqual(value[1][1], 50000)
        self.assertTrue(check_reach(program, ("broken", 8), 2, value, steps=9))

    def test_an_item_that_is_no_at_once(self):
        program = read_program("width 3\nprocedure f 0\nblock 0\nreturn 1\nprocedure main 0\nblock 0\nv0 = take\nif 0 1 2\n"
                               "block 1\nv0 = f()\nassert 3 0\nreturn 1\nblock 2\nreturn v0\n")
        for item in (("block", "main", 1), ("block", "f", 0), ("broken", 3), ("edge", "main", 0, 1), ("deep", "main", 1, 0)):
            self.assertEqual(unroll(program, 1, 9).literal(item), 0)
            clauses = item_clauses(program, item, 1, steps=9)
            self.assertEqual(solve(clauses)[0], "no")
            value = reach(program, item, 1, steps=9)
            self.assertEqual(value[0], "never")
            for refutation in (value[1], ((),), ((1,), ()), ((1,), (-1,), ())):
                self.assertTrue(check_reach(program, item, 1, ("never", refutation), steps=9))
            self.assertFalse(check_reach(program, item, 1, ("never", ((1,),)), steps=9))
            self.assertFalse(check_reach(program, item, 1, ("met", (0,)), steps=9))

    def test_an_item_that_is_yes_at_once(self):
        for count in (0, 1, 2):
            value = reach(NARROW, ("block", "main", 0), count, steps=1)
            self.assertEqual((value[0], len(value[1])), ("met", count))
            self.assertFalse(check_reach(NARROW, ("block", "main", 0), count, ("never", ((),)), steps=1))
            self.assertTrue(check_reach(NARROW, ("block", "main", 0), count, ("never", ((),)), steps=0))


class ClausesTest(unittest.TestCase):

    def test_they_are_those_of_the_literal_of_the_unrolling(self):
        for seed in range(60):
            program, count, steps = Maker(seed).program(), seed % 3, seed % 12
            unrolling = unroll(program, count, steps)
            for item in items_of(program) + (("block", "main", 77), ("broken", 50)):
                clauses = item_clauses(program, item, count, steps=steps)
                self.assertIs(type(clauses), tuple)
                self.assertTrue(all(is_clause(clause) for clause in clauses))
                self.assertEqual(clauses, unrolling.pool.clauses(unrolling.literal(item))[0])
                self.assertEqual(clauses, item_clauses(program, item, count, steps=steps))

    def test_names_are_the_bits_of_the_inputs(self):
        for seed in range(60):
            program, count, steps = Maker(seed).program(), 2, 9
            unrolling = unroll(program, count, steps)
            for item in items_of(program):
                clauses, names = unrolling.pool.clauses(unrolling.literal(item))
                bits = {(k, j) for k in range(count) for j in range(program[0])}
                self.assertTrue({name for name, _ in names} <= bits)
                for row in all_inputs(program, count):
                    items = [(v if (row[k] >> j) & 1 else -v,) for (k, j), v in names]
                    expected = "yes" if item in PlainRun(program, row, steps).met() else "no"
                    self.assertEqual(solve(list(clauses) + items)[0], expected)

    def test_no_filling_keeps_them_just_where_no_input_meets_the_item(self):
        for item in items_of(NARROW):
            some = any(item in run.met() for run in all_runs(NARROW, 2, 9).values())
            self.assertEqual(solve(item_clauses(NARROW, item, 2, steps=9))[0], "yes" if some else "no")


class CheckTest(unittest.TestCase):

    def check(self, program, item, count, value, expected, steps=9):
        self.assertIs(check_reach(program, item, count, value, steps=steps), expected, (item, value))

    def test_each_row_for_each_item(self):
        for row in all_inputs(NARROW, 2):
            items = met(NARROW, row, steps=9)
            for item in items_of(NARROW):
                self.check(NARROW, item, 2, ("met", row), item in items)

    def test_answers_for_other_items(self):
        items = items_of(NARROW)
        answers = {item: reach(NARROW, item, 2, steps=9) for item in items}
        self.assertEqual({value[0] for value in answers.values()}, {"met", "never"})
        for item in items:
            for other in items:
                value = answers[other]
                if value[0] == "met":
                    expected = item in met(NARROW, value[1], steps=9)
                else:
                    expected = refutes(item_clauses(NARROW, item, 2, steps=9), value[1])
                    self.assertTrue(answers[item][0] == "never" or not expected)
                self.check(NARROW, item, 2, value, expected)

    def test_inputs_of_another_number_and_other_words(self):
        item = ("block", "main", 0)
        self.check(NARROW, item, 2, ("met", (0, 7)), True)
        for row in ((), (0,), (0, 0, 0), (0, 8), (8, 0), (-1, 0), (0, -1), (True, 0), (0, False), (0, 10 ** 30), (None, 0),
                    ("0", 0), ((0,), 0), [0, 7], [0], 0, None, ("met", (0, 7)), (0.0, 7)):
            self.check(NARROW, item, 2, ("met", row), False)
        self.check(NARROW, item, 0, ("met", ()), True)
        self.check(NARROW, item, 0, ("met", (0,)), False)
        self.check(NARROW, item, 3, ("met", (0, 0)), False)

    def test_lists_in_the_place_of_tuples(self):
        item, other = ("broken", 3), ("broken", 2)
        never, some = reach(NARROW, item, 2, steps=9), reach(NARROW, other, 2, steps=9)
        self.assertEqual((never[0], some[0]), ("never", "met"))
        self.check(NARROW, item, 2, never, True)
        self.check(NARROW, other, 2, some, True)
        self.check(NARROW, item, 2, list(never), False)
        self.check(NARROW, other, 2, list(some), False)
        self.check(NARROW, item, 2, ("never", list(never[1])), False)
        self.check(NARROW, item, 2, ("never", never[1][:-1] + ([],)), False)
        self.check(NARROW, other, 2, ("met", list(some[1])), False)

    def test_refutations_with_a_row_left_out(self):
        item = ("broken", 3)
        clauses = item_clauses(NARROW, item, 2, steps=9)
        refutation = reach(NARROW, item, 2, steps=9)[1]
        self.assertGreater(len(refutation), 2)
        refused = 0
        for k in range(len(refutation)):
            rows = refutation[:k] + refutation[k + 1:]
            expected = refutes(clauses, rows)
            refused += not expected
            self.check(NARROW, item, 2, ("never", rows), expected)
        self.assertGreater(refused, 0)
        self.check(NARROW, item, 2, ("never", ((),)), False)
        self.check(NARROW, item, 2, ("never", refutation[:-1]), False)
        self.check(NARROW, item, 2, ("never", refutation + ((1,),)), False)

    def test_plain_values(self):
        for value in PLAIN_VALUES:
            for item in (("broken", 2), ("broken", 3)):
                self.check(NARROW, item, 2, value, False)

    def test_other_steps(self):
        program = read_program(LOOP)
        item = ("edge", "main", 1, 3)
        for steps in range(20):
            for x in range(8):
                self.check(program, item, 1, ("met", (x,)), steps >= 3 + 2 * x, steps=steps)

    def test_no_wrong_answer_by_chance(self):
        for seed in range(40):
            program, steps = Maker(seed).program(), 2 + seed % 9
            runs = all_runs(program, 1, steps)
            for item in items_of(program):
                some = any(item in run.met() for run in runs.values())
                for refutation in (((),), ((1,), ()), ((-1,), ()), ((1,), (-1,), ())):
                    value = ("never", refutation)
                    if some:
                        self.check(program, item, 1, value, False, steps=steps)
                for row in all_inputs(program, 1):
                    self.check(program, item, 1, ("met", row), item in runs[row].met(), steps=steps)


class BoundsTest(unittest.TestCase):

    def test_sixty_blocks_of_six_inputs(self):
        text = "width 16\narray a 8\nprocedure main 0\nblock 0\n" + "".join(f"v0 = take\na[{k}] = v0\n" for k in range(6)) \
            + "go 1\nblock 1\nif (a[v2] less a[(v2 add 1)]) 2 5\nblock 2\nv3 = (v3 add a[v2])\nv2 = (v2 add 1)\n" \
            + "if (v2 less 5) 1 3\nblock 3\nif (v3 equal 12345) 4 5\nblock 4\nassert 7 (a[4] less 3)\nreturn 1\nblock 5\n" \
            + "return 0\n"
        program = read_program(text)
        value = reach(program, ("broken", 7), 6, steps=60)
        self.assertEqual(value[0], "met")
        row = value[1]
        self.assertTrue(list(row) == sorted(set(row)) and sum(row[:5]) % 2 ** 16 == 12345)
        self.assertTrue(check_reach(program, ("broken", 7), 6, value, steps=60))
        # Five words that ascend end above 3.
        value = reach(program, ("index", "main", 1, -1), 6, steps=60)
        self.assertEqual(value[0], "never")
        self.assertTrue(check_reach(program, ("index", "main", 1, -1), 6, value, steps=60))

    def test_no_function_is_open_more_than_100_times(self):
        program = read_program(DEEP)
        for item in (("deep", "f", 1, 0), ("edge", "main", 0, 1)):
            value = reach(program, item, 1, steps=60)
            self.assertLessEqual(deepest_calls(lambda: reach(program, item, 1, steps=60)), 100)
            self.assertLessEqual(deepest_calls(lambda: check_reach(program, item, 1, value, steps=60)), 100)

    def test_values_that_nest_deep(self):
        deep = ()
        for _ in range(20000):
            deep = (deep,)
        for value in (deep, ("met", deep), ("never", deep), ("never", (deep, ())), ("met", (deep, 0))):
            self.assertFalse(check_reach(NARROW, ("broken", 3), 2, value, steps=9))

    def test_nothing_that_is_passed_in_is_changed(self):
        for seed in range(20):
            program = Maker(seed).program()
            kept = copy.deepcopy(program)
            for item in items_of(program):
                value = reach(program, item, 1, steps=9)
                kept_value = copy.deepcopy(value)
                check_reach(program, item, 1, value, steps=9)
                self.assertEqual(value, kept_value)
                rows = [list(value), [1, 2]]
                check_reach(program, item, 1, rows, steps=9)
                self.assertEqual(rows, [list(value), [1, 2]])
            self.assertEqual(program, kept)


if __name__ == "__main__":
    unittest.main()
