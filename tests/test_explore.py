"""The tests of explore of inputways.trees: promises [6.1], [6.2] and [6.4], and what [0.2] and [0.3] say of it."""

import copy
import unittest

from chance import Maker
from inputways.programs import program_faults
from inputways.runs import run
from inputways.text import read_program
from inputways.trees import check_tree, explore, refusal, told_run, ways_of
from plain_trees import AllRuns, parts_of, shape
from watching import deepest_calls

HEAD = "width 2\narray a 1\narray b 2\narray c 4\nprocedure id 1\nblock 0\nreturn v0\nprocedure main 0\nblock 0\n"


def program_of(lines, ahead=HEAD):
    """The program whose main begins with some lines of block 0."""
    program = read_program(ahead + lines)
    assert program_faults(program) == [], program_faults(program)
    return program


def decisions_of(lines, count, steps=20):
    """The shape of the tree of main's lines."""
    program = program_of(lines + "\n")
    tree = explore(program, count, steps=steps)
    assert check_tree(program, count, tree, steps=steps), tree
    assert shape(tree) == AllRuns(program, count, steps).shape()
    return shape(tree)


WAY, SHUT = "way", "shut"
TWO = (WAY, WAY)
TARGETS = "\nblock 1\nreturn 1\nblock 2\nreturn 2"


class DecisionTest(unittest.TestCase):

    def check(self, lines, expected, count=2, steps=20):
        self.assertEqual(decisions_of(lines, count, steps), expected, lines)

    def test_an_if(self):
        self.check("v0 = take\nif v0 1 2" + TARGETS, TWO)
        self.check("v0 = take\nif v0 1 1" + TARGETS, TWO)
        self.check("v0 = take\nif (v0 less 3) 2 1" + TARGETS, TWO)

    def test_the_first_side_of_an_if_is_that_of_a_word_that_is_not_0(self):
        tree = explore(program_of("v0 = take\nif v0 1 2" + TARGETS + "\n"), 1, steps=9)
        self.assertEqual((tree[0], tree[1][0]), ("fork", "way"))
        self.assertNotEqual(tree[1][1], (0,))
        self.assertEqual(tree[2], ("way", (0,)))

    def test_an_assert(self):
        self.check("v0 = take\nassert 1 v0\nreturn 0", TWO)
        tree = explore(program_of("v0 = take\nassert 1 (v0 equal 2)\nreturn 0\n"), 1, steps=9)
        self.assertEqual(tree[1], ("way", (2,)))
        self.assertNotEqual(tree[2][1], (2,))
        self.check("v0 = take\nassert 1 v0\nassert 1 v0\nreturn 0", ((WAY, SHUT), WAY))

    def test_looks_at_cells(self):
        for lines in ("put b[v0]", "b[v0] = 1", "v1 = b[v0]", "v1 = id(b[v0])", "put not(b[v0])", "b[1] = b[v0]"):
            self.check(f"v0 = take\n{lines}\nreturn 0", TWO)
        self.check("v0 = take\nreturn b[v0]", TWO)
        self.check("v0 = take\nif b[v0] 1 2" + TARGETS, ((SHUT, WAY), WAY))
        self.check("v0 = take\nassert 1 b[v0]\nreturn 0", ((SHUT, WAY), WAY))
        tree = explore(program_of("v0 = take\nput b[v0]\nreturn 0\n"), 1, steps=9)
        self.assertLess(tree[1][1][0], 2)
        self.assertGreaterEqual(tree[2][1][0], 2)

    def test_looks_where_the_size_is_above_the_greatest_word(self):
        self.check("v0 = take\nput c[v0]\nreturn 0", (WAY, SHUT))
        self.check("v0 = take\nc[v0] = 1\nreturn 0", (WAY, SHUT))
        for width, size in ((1, 2), (1, 3), (1, 8), (2, 4), (2, 5), (3, 8)):
            program = read_program(f"width {width}\narray a {size}\nprocedure main 0\nblock 0\nv0 = take\nv1 = take\n"
                                   "a[v0] = v1\nput a[v1]\nif a[0] 1 1\nblock 1\nreturn 1\n")
            tree = explore(program, 2, steps=9)
            self.assertEqual(shape(tree), ((TWO, SHUT), SHUT))
            self.assertTrue(check_tree(program, 2, tree, steps=9))

    def test_no_decision_where_all_words_are_known(self):
        for lines in ("v0 = take\nif v1 1 2" + TARGETS, "v0 = take\nassert 1 v1\nreturn v0", "v0 = take\nput b[3]\nreturn v0",
                      "v0 = take\nb[1] = v0\nput b[1]\nreturn b[0]", "v0 = take\nb[3] = v0\nreturn 0",
                      "v0 = take\nv0 = 3\nif v0 1 2" + TARGETS, "v1 = id(2)\nif v1 1 2" + TARGETS,
                      "v0 = take\nb[1] = v0\nif b[0] 1 2" + TARGETS, "v0 = take\nb[1] = v0\nb[1] = 2\nif b[1] 1 2" + TARGETS):
            self.check(lines, WAY)

    def test_inputs_behind_the_last_one_are_known(self):
        lines = "v0 = take\nv1 = take\nassert 0 v0\nassert 1 v1\nreturn 0"
        self.check(lines, WAY, count=0)
        self.check(lines, TWO, count=1)
        self.check(lines, (TWO, WAY), count=2)
        self.check(lines, (TWO, WAY), count=3)

    def test_a_word_that_an_input_took_part_in_is_not_known(self):
        for value in ("(v0 and 0)", "(v0 sub v0)", "(v0 mul 0)", "(v0 xor v0)", "(0 and v0)", "(0 shl v0)"):
            self.check(f"v0 = take\nif {value} 1 2" + TARGETS, (SHUT, WAY))
            self.check(f"v0 = take\nput a[{value}]\nreturn 0", (WAY, SHUT))
        self.check("v0 = take\nif neg((v0 and 0)) 1 2" + TARGETS, (SHUT, WAY))
        self.check("v0 = take\nif not((v0 and 0)) 1 2" + TARGETS, (WAY, SHUT))

    def test_words_that_go_through_variables_cells_and_calls(self):
        self.check("v0 = take\nb[1] = v0\nv1 = b[1]\nv2 = id(v1)\nif v2 1 2" + TARGETS, TWO)

    def test_a_cell_that_is_read_at_an_index_that_is_not_known(self):
        self.check("v0 = take\nif c[v0] 1 2" + TARGETS, ((SHUT, WAY), SHUT))
        self.check("v0 = take\nc[1] = 1\nif c[v0] 1 2" + TARGETS, (TWO, SHUT))
        self.check("v0 = take\nif c[(v0 and 0)] 1 2" + TARGETS, ((SHUT, WAY), SHUT))

    def test_cells_behind_a_store_at_an_index_that_is_not_known(self):
        self.check("v0 = take\nc[v0] = 1\nif c[3] 1 2" + TARGETS, (TWO, SHUT))
        self.check("v0 = take\nc[v0] = 0\nif c[3] 1 2" + TARGETS, ((SHUT, WAY), SHUT))
        self.check("v0 = take\nc[2] = 3\nc[v0] = 0\nif c[2] 1 2" + TARGETS, (TWO, SHUT))
        # Behind a store at a known index, this cell is known again, and no other one.
        self.check("v0 = take\nc[v0] = 1\nc[3] = 1\nif c[3] 1 2" + TARGETS, (WAY, SHUT))
        self.check("v0 = take\nc[v0] = 1\nc[3] = 1\nif c[2] 1 2" + TARGETS, (TWO, SHUT))
        self.check("v0 = take\nc[v0] = 1\nif b[1] 1 2" + TARGETS, (WAY, SHUT))

    def test_cells_that_no_index_has(self):
        program = read_program("width 1\narray a 4\nprocedure main 0\nblock 0\nv0 = take\na[v0] = v0\nassert 0 a[1]\n"
                               "assert 1 (a[0] equal 0)\nreturn 0\n")
        tree = explore(program, 1, steps=9)
        self.assertEqual(shape(tree), AllRuns(program, 1, 9).shape())
        self.assertEqual(shape(tree), (((WAY, SHUT), WAY), SHUT))

    def test_cells_are_picked_by_all_bits_of_an_index(self):
        for width in (1, 2, 3, 4):
            for size in range(1, 9):
                some = [(3 * k + 1) % 2 ** width for k in range(size)]
                stores = "".join(f"a[{k}] = {word}\n" for k, word in enumerate(some) if k < 2 ** width)
                ahead = f"width {width}\narray a {size}\nprocedure main 0\nblock 0\nv0 = take\n{stores}"
                for lines in ("assert 1 (a[v0] equal 0)", "assert 1 (a[v0] equal 1)", "a[v0] = v0\nassert 1 (a[v0] equal v0)",
                              "a[v0] = (a[v0] add 1)\nassert 1 (a[0] equal 1)\nassert 2 (a[v0] and 1)",
                              "v1 = take\na[v0] = v1\nassert 1 (a[v1] equal 1)"):
                    program = read_program(ahead + lines + "\nreturn 0\n")
                    count = 2 if "v1" in lines else 1
                    runs, tree = AllRuns(program, count, 9), explore(program, count, steps=9)
                    self.assertEqual(shape(tree), runs.shape(), (width, size, lines))
                    self.assertTrue(check_tree(program, count, tree, steps=9))
                    self.assertTrue(all(runs.is_way(path, part[1]) for path, part in parts_of(tree) if part[0] == "way"))

    def test_decisions_stand_in_the_order_of_the_run(self):
        # The one that is looked at first goes wrong in the last way, the other one in the way ahead of it.
        for lines, first in (("put (a[v0] add b[v1])", 0), ("put (b[v1] add a[v0])", 1), ("v2 = id((a[v0] or b[v1]))", 0),
                             ("a[v0] = b[v1]", 1), ("b[v1] = a[v0]", 0), ("put a[v0]\nput b[v1]", 0),
                             ("b[v1] = 0\na[v0] = 0", 1)):
            tree = explore(program_of("v0 = take\nv1 = take\n" + lines + "\nreturn 0\n"), 2, steps=9)
            self.assertEqual(shape(tree), (TWO, WAY), lines)
            last, middle = tree[2][1], tree[1][2][1]
            wrong = [lambda row: row[0] >= 1, lambda row: row[1] >= 2]
            self.assertTrue(wrong[first](last), lines)
            self.assertTrue(wrong[1 - first](middle) and not wrong[first](middle), lines)

    def test_the_end_of_the_steps(self):
        lines = "v0 = take\nif v0 1 2\nblock 1\nv0 = (v0 sub 1)\nif v0 1 2\nblock 2\nreturn 2"
        self.check(lines, WAY, steps=0)
        self.check(lines, TWO, steps=1)
        self.check(lines, (TWO, WAY), steps=2)
        self.check(lines, ((TWO, WAY), WAY), steps=3)
        self.check(lines, ((((SHUT, WAY), WAY), WAY), WAY), steps=5)

    def test_calls_that_are_too_deep(self):
        program = read_program("width 4\nprocedure f 1\nblock 0\nif v0 1 2\nblock 1\nv0 = f((v0 sub 1))\nreturn v0\nblock 2\n"
                               "return 0\nprocedure main 0\nblock 0\nv0 = take\nv0 = f(v0)\nreturn v0\n")
        tree = explore(program, 1, steps=60)
        self.assertEqual(shape(tree), AllRuns(program, 1, 60).shape())
        self.assertEqual([way[0][0] for way in ways_of(program, 1, tree, steps=60)].count("deep"), 1)


class ExploreTest(unittest.TestCase):

    def compare(self, program, count, steps):
        """Compare explore's tree with the runs of all inputs, and look at each of its parts."""
        runs = AllRuns(program, count, steps)
        tree = explore(program, count, steps=steps)
        self.assertEqual(shape(tree), runs.shape())
        self.assertTrue(check_tree(program, count, tree, steps=steps))
        for path, part in parts_of(tree):
            if part[0] == "way":
                self.assertEqual(len(part), 2)
                self.assertTrue(runs.is_way(path, part[1]))
        return tree

    def test_programs_by_chance(self):
        shut = 0
        for seed in range(400):
            tree = self.compare(Maker(seed).program(), seed % 4, 3 + seed % 20)
            shut += [part[0] for _, part in parts_of(tree)].count("shut")
        self.assertGreater(shut, 100)

    def test_programs_by_chance_of_other_widths(self):
        for seed in range(120):
            self.compare(Maker(seed + 5000, width=1 + seed % 4, depth=3, body=5, blocks=6).program(), 2, 12)
        for seed in range(30):
            self.compare(Maker(seed + 7000, width=6, depth=3, body=4, blocks=5).program(), 1, 12)

    def test_a_narrow_way(self):
        for value, one in (("(((v0 mul 40503) xor (v0 shr 7)) equal 4241)", None), ("(v0 equal 54321)", 54321),
                           ("((v0 mul 24243) equal 1)", None), ("((v0 add (v0 shl 3)) equal 65535)", None)):
            program = read_program(f"width 16\nprocedure main 0\nblock 0\nv0 = take\nif {value} 1 2\n"
                                   "block 1\nreturn 1\nblock 2\nreturn 0\n")
            tree = explore(program, 1, steps=9)
            self.assertEqual(shape(tree), TWO)
            self.assertTrue(check_tree(program, 1, tree, steps=9))
            found = ways_of(program, 1, tree, steps=9)
            self.assertEqual([way[1] for way in found], [(("main", 0), ("main", 1)), (("main", 0), ("main", 2))])
            self.assertIn(one, (None, tree[1][1][0]))

    def test_that_a_narrow_way_is_gone_by_one_row_alone(self):
        program = read_program("width 16\nprocedure main 0\nblock 0\nv0 = take\nassert 0 ((v0 mul 24243) equal 12345)\n"
                               "return v0\n")
        tree = explore(program, 1, steps=9)
        goes = [x for x in range(2 ** 16) if x * 24243 % 2 ** 16 == 12345]
        self.assertEqual(len(goes), 1)
        self.assertEqual(tree[1], ("way", (goes[0],)))

    def test_a_narrow_way_of_more_inputs(self):
        program = read_program("width 16\nprocedure main 0\nblock 0\nv0 = take\nv1 = take\nassert 0 ((v0 mul v1) equal 56977)\n"
                               "assert 1 (v0 less v1)\nassert 2 (1 less v0)\nassert 3 (v1 less 256)\nput v0\nput v1\nreturn 0\n")
        tree = explore(program, 2, steps=9)
        self.assertEqual(shape(tree), ((((WAY, WAY), WAY), WAY), WAY))
        v0, v1 = tree[1][1][1][1][1]
        self.assertTrue(v0 * v1 == 56977 and 1 < v0 < v1 < 256)
        self.assertTrue(check_tree(program, 2, tree, steps=9))

    def test_a_way_that_none_goes(self):
        program = read_program("width 16\nprocedure main 0\nblock 0\nv0 = take\nif ((v0 mul v0) equal 4242) 1 2\n"
                               "block 1\nreturn 1\nblock 2\nif ((v0 mul v0) and 2) 1 3\nblock 3\nreturn 0\n")
        tree = explore(program, 1, steps=9)
        self.assertEqual(shape(tree), (SHUT, (SHUT, WAY)))
        self.assertTrue(check_tree(program, 1, tree, steps=9))

    def test_no_inputs_and_more_than_are_taken(self):
        program = program_of("v0 = take\nif v0 1 2" + TARGETS + "\n")
        self.assertEqual(explore(program, 0, steps=9), ("way", ()))
        for count in (1, 2, 6, 8):
            tree = explore(program, count, steps=9)
            self.assertEqual(shape(tree), TWO)
            self.assertEqual([len(tree[1][1]), len(tree[2][1])], [count, count])
            self.assertTrue(check_tree(program, count, tree, steps=9))


class BoundsTest(unittest.TestCase):

    def check(self, text, count, steps, ways, longest):
        program = read_program(text)
        self.assertEqual(program_faults(program), [])
        tree = explore(program, count, steps=steps)
        self.assertTrue(check_tree(program, count, tree, steps=steps))
        rows = parts_of(tree)
        self.assertEqual(len([part for _, part in rows if part[0] == "way"]), ways)
        self.assertEqual(max(len(path) for path, _ in rows), longest)
        return program, tree

    def test_many_decisions(self):
        loop = "width 8\nprocedure main 0\nblock 0\nv0 = take\ngo 1\nblock 1\nif v0 2 3\nblock 2\nv0 = (v0 sub 1)\ngo 1\n" \
               "block 3\nreturn 1\n"
        self.check(loop, 1, 60, 31, 30)
        # More decisions than the bound.
        program, tree = self.check(loop, 1, 220, 111, 110)
        for x in (0, 1, 99, 107, 108, 109, 110, 200):
            self.assertEqual(told_run(program, (x,), tree, steps=220)[1:], run(program, (x,), steps=220))

    def test_no_function_is_open_more_than_100_times(self):
        loop = "width 4\nprocedure main 0\nblock 0\nv0 = take\ngo 1\nblock 1\nassert 1 (v0 less 9)\nif v0 2 2\n" \
               "block 2\nassert 1 (v0 less 9)\ngo 1\n"
        program, tree = self.check(loop, 1, 80, 3, 119)
        self.assertLessEqual(deepest_calls(lambda: explore(program, 1, steps=80)), 100)
        self.assertLessEqual(deepest_calls(lambda: check_tree(program, 1, tree, steps=80)), 100)
        self.assertLessEqual(deepest_calls(lambda: ways_of(program, 1, tree, steps=80)), 100)
        self.assertLessEqual(deepest_calls(lambda: told_run(program, (5,), tree, steps=80)), 100)
        self.assertEqual(told_run(program, (5,), tree, steps=80)[1:], run(program, (5,), steps=80))

    def test_many_ways(self):
        text = "width 9\nprocedure main 0\nblock 0\nv0 = take\ngo 1\nblock 1\nif (v0 and (1 shl v1)) 2 3\n" \
               "block 2\nv2 = (v2 add 1)\ngo 3\nblock 3\nv1 = (v1 add 1)\nif (v1 less 9) 1 4\nblock 4\nreturn v2\n"
        program, tree = self.check(text, 1, 60, 512, 9)
        for x in range(512):
            self.assertEqual(told_run(program, (x,), tree, steps=60)[2], ("return", bin(x).count("1")))

    def test_sixty_blocks_of_six_inputs(self):
        text = "width 16\narray a 8\nprocedure main 0\nblock 0\n" + "".join(f"v0 = take\na[{k}] = v0\n" for k in range(6)) \
            + "go 1\nblock 1\nv1 = ((v1 mul 3) add a[v2])\nv2 = (v2 add 1)\nif (v2 less 6) 1 2\n" \
            + "block 2\nif (v1 equal 12345) 3 4\nblock 3\nassert 7 (a[0] less a[5])\nreturn 1\nblock 4\nreturn 0\n"
        program, tree = self.check(text, 6, 60, 3, 2)
        self.assertEqual(shape(tree), (TWO, WAY))

    def test_nothing_that_is_passed_in_is_changed(self):
        for seed in range(20):
            program = Maker(seed).program()
            kept = copy.deepcopy(program)
            tree = explore(program, 2, steps=9)
            kept_tree = copy.deepcopy(tree)
            check_tree(program, 2, tree, steps=9)
            refusal(program, 2, [tree, list(tree)], steps=9)
            ways_of(program, 2, tree, steps=9)
            told_run(program, (1, 2), tree, steps=9)
            self.assertEqual((program, tree), (kept, kept_tree))


if __name__ == "__main__":
    unittest.main()
