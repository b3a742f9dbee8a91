"""The tests of inputways.unrolling: promises [8.1] to [8.4], and of [0.2] and [0.3] what concerns them."""

import copy
import unittest

from chance import Maker, TakingMaker
from inputways.programs import program_faults
from inputways.runs import items_of
from inputways.text import read_program
from inputways.trees import explore, ways_of
from inputways.unrolling import unroll
from plain_runs import PlainRun
from plain_trees import all_inputs
from plain_unrolling import END_WORDS, all_runs, bits_of, told
from samples import nested, nested_left
from watching import deepest_calls

# A procedure that calls itself as often as an input says, so that more than 10 is too deep.
DEEP = ("width 4\nprocedure f 1\nblock 0\nif v0 1 2\nblock 1\nv1 = f((v0 sub 1))\nreturn (v1 add 2)\nblock 2\n"
        "return 0\nprocedure main 0\nblock 0\nv0 = take\nv0 = f(v0)\nif (v0 equal 8) 1 2\nblock 1\nassert 4 0\nreturn 1\n"
        "block 2\nreturn v0\n")
# Two calls of one procedure in one block, of itself too, which come back at different times.
TWICE = ("width 3\nprocedure f 1\nblock 0\nif (v0 less 2) 1 2\nblock 1\nreturn v0\nblock 2\nv1 = f((v0 sub 1))\n"
         "v2 = f((v0 sub 2))\nreturn (v1 add v2)\nprocedure main 0\nblock 0\nv0 = take\nv1 = take\nv2 = f((v0 and 3))\n"
         "v3 = f((v1 and 3))\nassert 2 (v2 less 2)\nput v3\nif (v3 equal 2) 1 2\nblock 1\nreturn v2\nblock 2\nreturn v3\n")
ARRAYS = ("width 2\narray a 2\narray b 5\nprocedure main 0\nblock 0\nv0 = take\nv1 = take\nb[v0] = v1\na[b[3]] = v0\n"
          "if b[v1] 1 2\nblock 1\nassert 9 a[v1]\ngo 3\nblock 2\nb[0] = a[0]\ngo 3\nblock 3\nif (b[0] equal a[v0]) 4 5\n"
          "block 4\nreturn a[b[v0]]\nblock 5\nreturn b[v0]\n")
# How many inputs are taken depends on inputs; those behind the last one are 0.
TAKES = ("width 2\nprocedure main 0\nblock 0\nv0 = take\nif v0 1 2\nblock 1\nv1 = take\ngo 3\nblock 2\nv2 = take\n"
         "v1 = take\ngo 3\nblock 3\nv3 = take\nassert 1 (v1 or v3)\nif (v3 equal v1) 4 5\nblock 4\nv0 = (v0 sub 1)\nif v0 3 5\n"
         "block 5\nreturn v3\n")
LOOP = ("width 3\nprocedure main 0\nblock 0\nv0 = take\ngo 1\nblock 1\nif v0 2 3\nblock 2\nv0 = (v0 sub 1)\ngo 1\n"
        "block 3\nreturn 1\n")


class UnrollTest(unittest.TestCase):

    def compare(self, program, count, steps):
        """Compare all literals with the runs of all inputs; return the words of the ends that were there."""
        unrolling = unroll(program, count, steps)
        ends = set()
        for row, run in all_runs(program, count, steps).items():
            self.assertEqual(told(program, unrolling, row), (run.met(), [run.end[0]]), (row, steps))
            ends.add(run.end[0])
        return ends

    def test_small_programs(self):
        for text, most in ((DEEP, 1), (TWICE, 2), (ARRAYS, 2), (TAKES, 4), (LOOP, 1)):
            program = read_program(text)
            self.assertEqual(program_faults(program), [])
            for count in range(most + 1):
                for steps in (0, 1, 2, 3, 5, 8, 30):
                    self.compare(program, count, steps)

    def test_a_procedure_that_calls_itself_up_to_too_deep(self):
        program = read_program(DEEP)
        for steps in range(0, 40):
            self.compare(program, 1, steps)
        unrolling = unroll(program, 1, 60)
        for x in range(16):
            met, ends = told(program, unrolling, (x,))
            self.assertEqual(("deep", "f", 1, 0) in met, x > 10)
            self.assertEqual(ends, ["deep"] if x > 10 else ["broken"] if x in (4, 12) else ["return"])

    def test_steps_that_just_do_and_just_do_not(self):
        program = read_program(LOOP)
        for steps in range(20):
            unrolling = unroll(program, 1, steps)
            for x in range(8):
                met, ends = told(program, unrolling, (x,))
                # The run of x begins 3 + 2 * x blocks.
                self.assertEqual(ends, ["return"] if steps >= 3 + 2 * x else ["none"])
                self.assertEqual(("edge", "main", 1, 3) in met, steps >= 3 + 2 * x)
                self.assertEqual(("block", "main", 0) in met, steps >= 1)

    def test_an_edge_to_a_block_that_is_not_begun(self):
        program = read_program("width 2\nprocedure main 0\nblock 0\nv0 = take\nif v0 1 2\nblock 1\nreturn 1\nblock 2\ngo 1\n")
        unrolling = unroll(program, 1, 1)
        for x in range(4):
            self.assertEqual(told(program, unrolling, (x,)), ((("block", "main", 0),), ["none"]))

    def test_no_steps(self):
        for text in (DEEP, ARRAYS, LOOP):
            program = read_program(text)
            unrolling = unroll(program, 1, 0)
            for row in all_inputs(program, 1):
                self.assertEqual(told(program, unrolling, row), ((), ["none"]))

    def test_inputs_left_over_and_too_few(self):
        program = read_program(LOOP)
        for count in (0, 2, 3):
            self.compare(program, count, 9)
        self.compare(read_program(TAKES), 5, 9)
        # No name but those of the inputs makes a difference.
        unrolling = unroll(program, 0, 60)
        for bits in ({}, {(0, 0): 1}, {(0, 0): 1, (0, 1): 1, (0, 2): 1, (1, 0): 1}):
            self.assertEqual(unrolling.pool.value(unrolling.end_literal("return"), bits), 1)
            self.assertEqual(unrolling.pool.value(unrolling.literal(("block", "main", 2)), bits), 0)

    def test_names_of_bits(self):
        program = read_program(LOOP)
        unrolling = unroll(program, 3, 60)
        literals = [unrolling.pool.bit((k, j)) for k in range(3) for j in range(3)]
        self.assertEqual(len(set(x >> 1 for x in literals)), 9)
        item = unrolling.literal(("edge", "main", 1, 2))
        for row in all_inputs(program, 3):
            bits = bits_of(program, row)
            self.assertEqual(unrolling.pool.values(literals, bits), [(x >> j) & 1 for x in row for j in range(3)])
            self.assertEqual(unrolling.pool.value(item, bits), int(row[0] > 0))
        # A bit that is not in the dict is 0.
        self.assertEqual(unrolling.pool.value(item, {(0, 1): 1}), 1)
        self.assertEqual(unrolling.pool.value(item, {(1, 1): 1, (2, 0): 1}), 0)

    def test_items_that_the_program_has_not(self):
        program = read_program(DEEP)
        unrolling = unroll(program, 1, 60)
        for item in (("block", "main", 3), ("block", "g", 0), ("block", "a", 0), ("edge", "main", 0, 3), ("edge", "main", 1, 2),
                     ("edge", "f", 1, 0), ("edge", "g", 0, 1), ("broken", 3), ("broken", 0), ("deep", "main", 0, 0),
                     ("deep", "main", 0, 1), ("deep", "f", 1, 1), ("deep", "f", 0, 0), ("deep", "g", 0, 0),
                     ("index", "main", 0, 0), ("index", "f", 1, -1), ("index", "g", 0, 0), ("other", "main", 0), ("none",),
                     ("return", 1)):
            self.assertEqual(unrolling.literal(item), 0, item)

    def test_items_that_no_run_meets_by_their_form(self):
        program = read_program("width 2\narray a 3\nprocedure f 0\nblock 0\nassert 5 0\nreturn 1\nprocedure main 0\nblock 0\n"
                               "v0 = take\nput a[2]\nif 1 1 2\nblock 1\nassert 3 1\nreturn v0\nblock 2\nv0 = f()\nreturn 1\n")
        unrolling = unroll(program, 2, 9)
        met = {("block", "main", 0), ("block", "main", 1), ("edge", "main", 0, 1)}
        for item in items_of(program):
            self.assertEqual(unrolling.literal(item), int(item in met), item)
        self.assertEqual([unrolling.end_literal(word) for word in END_WORDS], [1, 0, 0, 0, 0])

    def test_programs_by_chance(self):
        ends = set()
        for seed in range(250):
            ends |= self.compare(Maker(seed).program(), seed % 3, seed % 20)
        for seed in range(80):
            program = Maker(seed + 300, width=1 + seed % 3, blocks=6, body=5, depth=3).program()
            ends |= self.compare(program, 1 + seed % 2, 3 + seed % 14)
        for seed in range(150):
            program = TakingMaker(seed, width=1 + seed % 3, blocks=9, body=1 + seed % 4).program()
            ends |= self.compare(program, 2 if seed % 3 == 2 else 3, 3 + seed % 18)
        self.assertEqual(ends, set(END_WORDS))

    def test_indexes_and_sizes_of_other_widths(self):
        for width in (1, 2, 3):
            for size in (1, 2, 3, 5, 8):
                program = read_program(
                    f"width {width}\narray a {size}\nprocedure main 0\nblock 0\nv0 = take\nv1 = take\na[v0] = v1\n"
                    "if a[v1] 1 2\nblock 1\nassert 1 a[0]\ngo 3\nblock 2\na[v1] = 1\ngo 3\nblock 3\nreturn a[a[v0]]\n")
                self.compare(program, 2, 9)

    def test_an_index_that_is_always_too_great(self):
        program = read_program("width 4\narray a 3\nprocedure main 0\nblock 0\nv0 = take\nif v0 1 2\nblock 1\nput a[3]\nassert 1 0\n"
                               "return 0\nblock 2\na[9] = 1\nreturn a[3]\n")
        self.assertEqual(self.compare(program, 1, 9), {"index"})

    def test_an_if_with_equal_labels(self):
        program = read_program("width 2\nprocedure main 0\nblock 0\nv0 = take\nif v0 1 1\nblock 1\nif (v0 less 2) 2 2\nblock 2\n"
                               "assert 1 v0\nreturn 0\n")
        self.compare(program, 1, 9)


class EndTest(unittest.TestCase):

    def test_just_one_end_is_yes(self):
        for seed in range(150):
            program, count = Maker(seed + 50, width=1 + seed % 2).program(), 1 + seed % 2
            unrolling = unroll(program, count, 2 + seed % 11)
            literals = [unrolling.end_literal(word) for word in END_WORDS]
            for row in all_inputs(program, count):
                self.assertEqual(sum(unrolling.pool.values(literals, bits_of(program, row))), 1)

    def test_items_are_those_of_the_ways_that_inputs_go(self):
        for seed in range(120):
            program, count, steps = Maker(seed + 70).program(), 1 + seed % 2, 3 + seed % 11
            unrolling = unroll(program, count, steps)
            tree = explore(program, count, steps=steps)
            ways = {path: (end, items) for end, path, items, _ in ways_of(program, count, tree, steps=steps)}
            by_decisions = {}
            for end, path, items, inputs in ways_of(program, count, tree, steps=steps):
                by_decisions[tuple(PlainRun(program, inputs, steps).decisions)] = (end, items)
            self.assertLessEqual(len(ways), len(by_decisions))
            for row in all_inputs(program, count):
                end, items = by_decisions[tuple(PlainRun(program, row, steps).decisions)]
                self.assertEqual(told(program, unrolling, row), (items, [end[0]]))


class BoundsTest(unittest.TestCase):

    def test_sixty_blocks_of_six_inputs(self):
        text = "width 16\narray a 8\nprocedure main 0\nblock 0\n" + "".join(f"v0 = take\na[{k}] = v0\n" for k in range(6)) \
            + "go 1\nblock 1\nif a[v2] 2 3\nblock 2\na[v2] = (a[v2] mul v3)\ngo 4\nblock 3\na[(v2 add 1)] = v3\ngo 4\n" \
            + "block 4\nv3 = (v3 add a[v2])\nv2 = (v2 add 1)\nif (v2 less 6) 1 5\nblock 5\nassert 7 (a[0] less a[5])\n" \
            + "if (v3 equal 12345) 6 7\nblock 6\nreturn 0\nblock 7\nreturn 1\n"
        program = read_program(text)
        self.assertEqual(program_faults(program), [])
        unrolling = unroll(program, 6, 60)
        for row in ((0,) * 6, (1, 2, 3, 4, 5, 6), (6, 5, 4, 3, 2, 1), (0, 9, 0, 9, 0, 9), (65535,) * 6, (12345, 0, 0, 0, 0, 12346)):
            run = PlainRun(program, row, 60)
            self.assertEqual(told(program, unrolling, row), (run.met(), [run.end[0]]))

    def test_many_procedures_blocks_and_statements(self):
        names = [f"p{k}" for k in range(7)]
        rows = []
        for k, name in enumerate(names):
            call = f"v1 = {names[k + 1]}((v0 sub 1))\n" if k < 6 else "v1 = 1\n"
            rows.append(f"procedure {name} 1\nblock 0\nif v0 1 2\nblock 1\n{call}return (v1 add v0)\nblock 2\nreturn 0\n")
        blocks = "".join(f"block {k}\n" + "v1 = (v1 add v0)\n" * 40 + f"if v1 {k + 1} 29\n" for k in range(1, 29))
        program = read_program("width 4\narray a 8\narray b 8\narray c 8\narray d 8\nprocedure main 0\nblock 0\n"
                               "v0 = take\nv1 = p0(v0)\ngo 1\n" + blocks + "block 29\nreturn v1\n" + "".join(rows))
        self.assertEqual(program_faults(program), [])
        unrolling = unroll(program, 1, 60)
        for x in range(16):
            run = PlainRun(program, (x,), 60)
            self.assertEqual(told(program, unrolling, (x,)), (run.met(), [run.end[0]]))

    def test_expressions_that_nest_deep(self):
        program = (8, (), (("main", 0, ((0, (("take", 0), ("assert", 1, nested(20, ("var", 0)))), ("if", nested_left(20), 1, 2)),
                                        (1, (), ("return", ("int", 1))), (2, (), ("return", ("int", 2))))),))
        self.assertEqual(program_faults(program), [])
        unrolling = unroll(program, 1, 9)
        for x in range(0, 256, 3):
            run = PlainRun(program, (x,), 9)
            self.assertEqual(told(program, unrolling, (x,)), (run.met(), [run.end[0]]))
        self.assertLessEqual(deepest_calls(lambda: unroll(program, 1, 9)), 100)

    def test_no_function_is_open_more_than_100_times(self):
        program = read_program(LOOP)
        self.assertLessEqual(deepest_calls(lambda: unroll(program, 1, 400)), 100)
        program = read_program(DEEP)
        self.assertLessEqual(deepest_calls(lambda: unroll(program, 1, 60)), 100)

    def test_nothing_that_is_passed_in_is_changed(self):
        for seed in range(20):
            program = Maker(seed).program()
            kept = copy.deepcopy(program)
            unroll(program, 2, 12)
            self.assertEqual(program, kept)


if __name__ == "__main__":
    unittest.main()
