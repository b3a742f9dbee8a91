"""The tests of check_tree, refusal, ways_of and told_run of inputways.trees: promises [6.3] to [6.6]."""

import random
import unittest

from chance import Maker
from inputways.following import Following
from inputways.machine import Plan
from inputways.refuter import refutes
from inputways.runs import met, run
from inputways.text import read_program
from inputways.trees import check_tree, condition_of, explore, refusal, told_run, ways_of
from plain_runs import PlainRun
from plain_trees import AllRuns, Unsure, all_inputs, exchanged, parts_of, shape

# Two decisions, of which the second one asks again what the first one asked.
TWICE = read_program("width 2\nprocedure main 0\nblock 0\nv0 = take\nif (v0 less 2) 1 2\n"
                     "block 1\nif (v0 less 2) 3 4\nblock 2\nreturn 2\nblock 3\nreturn 3\nblock 4\nreturn 0\n")
# Three ways: v0 is 3, v0 is not 3 and v1 is 0, neither.
THREE = read_program("width 2\nprocedure main 0\nblock 0\nv0 = take\nv1 = take\nif (v0 equal 3) 1 2\n"
                     "block 1\nput v0\nreturn 1\nblock 2\nassert 5 v1\nput v1\nreturn v0\n")
ONE = read_program("width 2\nprocedure main 0\nblock 0\nv0 = take\nreturn v0\n")
PLAIN_VALUES = (
    None, True, False, 0, 1, -1, "", "way", "fork", (), [], ("way",), ("fork",), ("shut",), ("way", (0,), 0), ("shut", (), ()),
    ("fork", ("way", (0,))), ("fork", 1, 2, 3), ["way", (0,)], ["fork", ("way", (0,)), ("way", (3,))], (("way", (0,)),),
    ("Way", (0,)), ("ways", (0,)), (0, (0,)), (None, (0,)), (["way"], (0,)), ("", ()), ((), ()), ("fork", (0,)), (True, ((),)),
    ("shut", None), ("shut", 0), ("shut", ()), ("shut", [()]), ("shut", ((1,),)), ("shut", "x"), ("shut", True),
    ("way", None), ("way", 0), ("way", "0"), ("way", True),
)


def way(*row):
    return ("way", row)


class CheckTest(unittest.TestCase):

    def check(self, program, count, value, expected, steps=9):
        """Look at what is refused of a value; expected is a path, or None for a tree."""
        found = refusal(program, count, value, steps=steps)
        self.assertEqual(found, expected, value)
        if found is not None:
            self.assertIs(type(found), tuple)
            self.assertTrue(all(type(side) is int for side in found))
        self.assertIs(check_tree(program, count, value, steps=steps), expected is None)

    def test_a_tree_of_one_way(self):
        for x in range(4):
            self.check(ONE, 1, way(x), None)
        self.check(ONE, 0, way(), None)
        self.check(ONE, 3, way(3, 0, 2), None)

    def test_inputs_that_are_none(self):
        for row in ((), (0, 0), (4,), (-1,), (True,), (False,), ("0",), (None,), ((0,),), ([0],), [0], (10 ** 30,), 0, None, "0"):
            self.check(ONE, 1, ("way", row), ())
            self.check(TWICE, 1, ("fork", ("fork", way(0), ("shut", ((),))), ("way", row)), (1,))
        self.check(ONE, 0, way(0), ())
        self.check(ONE, 2, way(0), ())
        self.check(ONE, 2, way(0, 4), ())
        self.check(ONE, 2, way(4, 0), ())

    def test_a_tree_of_three_ways(self):
        for x in range(3):
            for y in range(1, 4):
                self.check(THREE, 2, ("fork", way(3, x), ("fork", way(x, y), way(2 - x, 0))), None)

    def test_inputs_that_do_not_keep_the_condition(self):
        right = ("fork", way(3, 1), ("fork", way(0, 1), way(0, 0)))
        runs = AllRuns(THREE, 2, 9)
        for row in all_inputs(THREE, 2):
            for path in ((0,), (1, 0), (1, 1)):
                value = exchanged(right, path, ("way", row))
                self.check(THREE, 2, value, None if tuple(runs.runs[row].decisions) == path else path)

    def test_parts_that_are_exchanged(self):
        self.check(THREE, 2, ("fork", ("fork", way(0, 1), way(0, 0)), way(3, 1)), (0,))
        self.check(THREE, 2, ("fork", way(3, 1), ("fork", way(0, 0), way(0, 1))), (1, 0))
        self.check(THREE, 2, ("fork", way(0, 1), ("fork", way(3, 1), way(0, 0))), (0,))
        self.check(THREE, 2, ("fork", way(3, 1), ("fork", way(3, 1), way(0, 0))), (1, 0))
        self.check(THREE, 2, ("fork", way(3, 1), ("fork", way(0, 1), way(3, 0))), (1, 1))

    def test_a_way_where_there_is_one_more_decision(self):
        for row in all_inputs(THREE, 2):
            self.check(THREE, 2, ("way", row), ())
            self.check(THREE, 2, ("fork", way(3, 1), ("way", row)), (1,))

    def test_a_fork_where_there_is_no_decision(self):
        self.check(ONE, 1, ("fork", way(0), way(0)), ())
        self.check(ONE, 1, ("fork", None, None), ())
        self.check(THREE, 2, ("fork", ("fork", way(3, 1), way(3, 1)), ("fork", way(0, 1), way(0, 0))), (0,))
        self.check(THREE, 2, ("fork", way(3, 1), ("fork", way(0, 1), ("fork", way(0, 0), way(0, 0)))), (1, 1))
        self.check(THREE, 2, ("fork", way(3, 1), ("fork", ("fork", 1, 2), way(0, 0))), (1, 0))

    def test_the_first_part_in_the_order_of_the_tree_is_told(self):
        self.check(THREE, 2, ("fork", None, None), (0,))
        self.check(THREE, 2, ("fork", way(3, 1), ("fork", None, None)), (1, 0))
        self.check(THREE, 2, ("fork", ("fork", 1, 2), None), (0,))
        self.check(TWICE, 1, ("fork", ("fork", way(0), None), None), (0, 1))
        self.check(TWICE, 1, ("fork", ("fork", None, way(0)), None), (0, 0))
        self.check(TWICE, 1, ("fork", ("fork", way(0), ("shut", ())), ("shut", ())), (0, 1))

    def test_shut_parts(self):
        shut = explore(TWICE, 1, steps=9)[1][2]
        self.assertEqual(shut[0], "shut")
        right = ("fork", ("fork", way(1), shut), way(2))
        self.check(TWICE, 1, right, None)
        for value in (("shut", ()), ("shut", ((1,),)), ("shut", (9,)), ("shut", [()]), ("shut", ((0,), ())), ("shut", None),
                      ("shut", shut[1] + ((1,),)), ("shut", list(shut[1])), ("shut",), ("shut", shut[1], 0), list(shut), shut[1]):
            self.check(TWICE, 1, exchanged(right, (0, 1), value), (0, 1))

    def test_what_some_inputs_keep_cannot_be_shut(self):
        for refutation in (((),), ((1,), ()), ((-1,), ()), ((1,), (-1,), ())):
            shut = ("shut", refutation)
            self.check(ONE, 1, shut, ())
            self.check(THREE, 2, shut, ())
            self.check(THREE, 2, ("fork", shut, ("fork", way(0, 1), way(0, 0))), (0,))
            self.check(THREE, 2, ("fork", way(3, 1), shut), (1,))
            self.check(THREE, 2, ("fork", way(3, 1), ("fork", way(0, 1), shut)), (1, 1))
            self.check(TWICE, 1, ("fork", shut, shut), (0,))

    def test_a_fork_behind_what_none_keep(self):
        # Behind a row that none keep there may be more decisions, with both sides shut.
        program = read_program("width 2\nprocedure main 0\nblock 0\nv0 = take\nif (v0 and 0) 1 2\nblock 1\nif v0 2 2\n"
                               "block 2\nreturn 0\n")
        tree = explore(program, 1, steps=9)
        self.assertEqual(shape(tree), ("shut", "way"))
        shut = ("shut", ((),))
        self.check(program, 1, ("fork", shut, way(0)), None)
        self.check(program, 1, ("fork", ("fork", shut, shut), way(0)), None)
        self.check(program, 1, ("fork", ("fork", way(1), shut), way(0)), (0, 0))
        self.check(program, 1, ("fork", ("fork", shut, way(0)), way(0)), (0, 1))
        self.check(program, 1, ("fork", ("fork", ("fork", shut, shut), shut), way(0)), (0, 0))
        self.check(program, 1, ("fork", way(1), way(0)), (0,))

    def test_plain_values(self):
        for value in PLAIN_VALUES:
            self.check(ONE, 1, value, ())
            self.check(THREE, 2, value, ())
            self.check(THREE, 2, ("fork", value, way(0, 0)), (0,))
            self.check(THREE, 2, ("fork", way(3, 1), value), (1,))
            self.check(THREE, 2, ("fork", way(3, 1), ("fork", value, way(0, 0))), (1, 0))
            self.check(THREE, 2, ("fork", way(3, 1), ("fork", way(0, 1), value)), (1, 1))

    def test_values_that_nest_deep(self):
        deep = way(0)
        for _ in range(20000):
            deep = ("fork", deep, None)
        self.assertTrue(refusal(THREE, 2, deep, steps=9) == (0,))
        deep = None
        for _ in range(20000):
            deep = ("fork", ("shut", ()), deep)
        self.assertTrue(refusal(THREE, 2, deep, steps=9) == (0,))
        self.assertFalse(check_tree(THREE, 2, (deep, deep), steps=9))

    def test_other_steps_and_inputs_have_other_trees(self):
        tree = explore(THREE, 2, steps=9)
        self.check(THREE, 2, tree, None, steps=2)
        self.check(THREE, 2, tree, (), steps=0)
        self.check(THREE, 2, tree, (1,), steps=1)
        self.check(THREE, 1, tree, (0,))
        self.check(ONE, 2, tree, ())
        self.check(THREE, 2, ("fork", way(3, 1), way(0, 1)), None, steps=1)
        self.check(THREE, 2, way(0, 1), None, steps=0)

    def test_parts_changed_by_chance(self):
        chance = random.Random(5)
        refused = 0
        for seed in range(250):
            program, count, steps = Maker(seed).program(), 1 + seed % 2, 3 + seed % 12
            runs, tree = AllRuns(program, count, steps), explore(program, count, steps=steps)
            rows = parts_of(tree)
            for _ in range(8):
                path = chance.choice(rows)[0]
                part = chance.choice([("way", chance.choice(sorted(runs.runs))), chance.choice(rows)[1], chance.choice(rows)[1],
                                      ("shut", ((),)), ("fork", ("shut", ()), ("shut", ()))])
                value = exchanged(tree, path, part)
                try:
                    expected = runs.refusal(tree, value)
                except Unsure:
                    continue
                self.check(program, count, value, expected, steps=steps)
                refused += expected is not None
        self.assertGreater(refused, 400)

    def test_shut_parts_are_refuted_by_the_clauses_of_their_condition(self):
        # The clauses are those of a pool in which just the run along the row was followed.
        shut = 0
        for seed in range(200):
            program, steps = Maker(seed).program(), 12
            for path, part in parts_of(explore(program, 2, steps=steps)):
                if part[0] == "shut":
                    alone = Following(Plan(program), 2, steps, path)
                    alone.go()
                    self.assertEqual(alone.conditions[len(path)], condition_of(alone, path))
                    clauses = alone.pool.clauses(alone.conditions[len(path)])[0]
                    self.assertTrue(refutes(clauses, part[1]))
                    shut += 1
        self.assertGreater(shut, 50)


class ToldTest(unittest.TestCase):

    def test_ways_of_three(self):
        tree = ("fork", way(3, 1), ("fork", way(1, 2), way(0, 0)))
        first, other = (("main", 0), ("main", 1)), (("main", 0), ("main", 2))
        self.assertEqual(ways_of(THREE, 2, tree, steps=9), [
            (("return",), first, (("block", "main", 0), ("block", "main", 1), ("edge", "main", 0, 1)), (3, 1)),
            (("return",), other, (("block", "main", 0), ("block", "main", 2), ("edge", "main", 0, 2)), (1, 2)),
            (("broken", 5), other, (("block", "main", 0), ("block", "main", 2), ("broken", 5), ("edge", "main", 0, 2)),
             (0, 0))])
        self.assertEqual(ways_of(THREE, 2, ("fork", way(3, 1), way(1, 2)), steps=1), [
            (("none",), (("main", 0),), (("block", "main", 0),), (3, 1)),
            (("none",), (("main", 0),), (("block", "main", 0),), (1, 2))])

    def test_each_of_the_ends(self):
        program = read_program(
            "width 4\narray a 2\nprocedure f 1\nblock 0\nv1 = f(v0)\nreturn v1\nprocedure main 0\nblock 0\nv0 = take\n"
            "assert 3 v0\nput a[(v0 sub 1)]\nif (v0 equal 1) 1 2\nblock 1\nreturn v0\nblock 2\nv1 = take\nif v1 3 4\n"
            "block 3\nv0 = f(v1)\ngo 4\nblock 4\ngo 4\n")
        tree = explore(program, 2, steps=30)
        self.assertTrue(check_tree(program, 2, tree, steps=30))
        ends = [row[0] for row in ways_of(program, 2, tree, steps=30)]
        self.assertEqual(ends, [("return",), ("deep", "f", 0, 0), ("none",), ("index", "main", 0, 2), ("broken", 3)])

    def test_told_runs_of_three(self):
        tree = ("fork", way(3, 1), ("fork", way(1, 2), way(0, 0)))
        self.assertEqual(told_run(THREE, (3, 0), tree, steps=9), (0, (3,), ("return", 1), (("main", 0), ("main", 1))))
        self.assertEqual(told_run(THREE, (2, 3), tree, steps=9), (1, (3,), ("return", 2), (("main", 0), ("main", 2))))
        self.assertEqual(told_run(THREE, (0, 1), tree, steps=9), (1, (1,), ("return", 0), (("main", 0), ("main", 2))))
        self.assertEqual(told_run(THREE, (2, 0), tree, steps=9), (2, (), ("broken", 5), (("main", 0), ("main", 2))))

    def test_shut_parts_do_not_count(self):
        tree = explore(TWICE, 1, steps=9)
        self.assertEqual(shape(tree), (("way", "shut"), "way"))
        self.assertEqual([told_run(TWICE, (x,), tree, steps=9)[0] for x in range(4)], [0, 0, 1, 1])
        self.assertEqual([row[0] for row in ways_of(TWICE, 1, tree, steps=9)], [("return",)] * 2)

    def test_none_where_the_tree_has_no_way(self):
        tree = ("fork", ("shut", ((),)), ("fork", way(1, 2), ("shut", ())))
        self.assertIsNone(told_run(THREE, (3, 0), tree, steps=9))
        self.assertIsNone(told_run(THREE, (1, 0), tree, steps=9))
        self.assertEqual(told_run(THREE, (1, 1), tree, steps=9)[0], 0)
        self.assertIsNone(told_run(THREE, (1, 1), ("shut", ((),)), steps=9))
        self.assertIsNone(told_run(THREE, (1, 1), ("fork", way(3, 0), ("shut", ((),))), steps=9))

    def compare(self, program, count, steps):
        tree = explore(program, count, steps=steps)
        ways = ways_of(program, count, tree, steps=steps)
        leaves = [(path, part[1]) for path, part in parts_of(tree) if part[0] == "way"]
        self.assertEqual(len(ways), len(leaves))
        for row in all_inputs(program, count):
            plain = PlainRun(program, row, steps)
            number, writes, end, path = told_run(program, row, tree, steps=steps)
            self.assertEqual((writes, end, path), plain.result())
            self.assertEqual((writes, end, path), run(program, row, steps=steps))
            self.assertEqual(leaves[number][0], tuple(plain.decisions))
            self.assertTrue(all(type(word) is int for word in writes))
            told_end = ("return",) if end[0] == "return" else end
            self.assertEqual(ways[number], (told_end, path, plain.met(), leaves[number][1]))
            self.assertEqual(ways[number][2], met(program, row, steps=steps))

    def test_programs_by_chance(self):
        for seed in range(250):
            self.compare(Maker(seed).program(), seed % 3, 2 + seed % 20)
        for seed in range(60):
            self.compare(Maker(seed + 900, width=1 + seed % 3, depth=3, body=5, blocks=6).program(), 2, 12)

    def test_hand_made_trees_tell_the_runs_too(self):
        # Whoever made the tree: other inputs of the same ways, and a fork behind what none keep.
        shut = explore(TWICE, 1, steps=9)[1][2]
        for first in (0, 1):
            for second in (2, 3):
                tree = ("fork", ("fork", way(first), shut), way(second))
                self.assertTrue(check_tree(TWICE, 1, tree, steps=9))
                for x in range(4):
                    self.assertEqual(told_run(TWICE, (x,), tree, steps=9)[1:], run(TWICE, (x,), steps=9))
                self.assertEqual([row[3] for row in ways_of(TWICE, 1, tree, steps=9)], [(first,), (second,)])


if __name__ == "__main__":
    unittest.main()
