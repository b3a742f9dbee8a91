"""The tests of inputways.suites and inputways.layers: promises [12.1], [12.3] and [12.4], and [0.1] (4)."""

import copy
import itertools
import random
import unittest

from chance import Maker, TakingMaker
from inputways.cover import cover_clauses
from inputways.layers import decide_cover, greedy_cover, layered_refutation, least_cover
from inputways.refuter import refutes
from inputways.solver import solve
from inputways.suites import check_suite, suite
from inputways.text import read_program
from inputways.trees import check_tree, explore, ways_of
from plain_clauses import is_clause
from plain_unrolling import all_runs
from samples import ODD_VALUES
from test_cover import some_cover
from test_unrolling import ARRAYS, DEEP, LOOP, TAKES, TWICE
from watching import deepest_calls

# Each of four cases of two inputs: so many ways, of which four meet all.
CASES = read_program("width 2\nprocedure main 0\nblock 0\nv0 = take\nv1 = take\nif (v0 and 1) 1 2\nblock 1\nif (v0 and 2) 3 4\n"
                     "block 2\nif (v0 and 2) 5 6\nblock 3\ngo 7\nblock 4\ngo 7\nblock 5\ngo 7\nblock 6\ngo 7\n"
                     "block 7\nif (v1 and 1) 8 9\nblock 8\nif (v1 and 2) 10 11\nblock 9\nif (v1 and 2) 12 13\nblock 10\nreturn 0\n"
                     "block 11\nreturn 1\nblock 12\nreturn 2\nblock 13\nreturn 3\n")
# Three ways: v0 is 3, v0 is not 3 and v1 is 0, neither.
THREE = read_program("width 2\nprocedure main 0\nblock 0\nv0 = take\nv1 = take\nif (v0 equal 3) 1 2\n"
                     "block 1\nput v0\nreturn 1\nblock 2\nassert 5 v1\nput v1\nreturn v0\n")
PLAIN = read_program("width 2\nprocedure main 0\nblock 0\nv0 = take\nreturn v0\n")


def least_many(program, count, steps):
    """How many rows the least suites have, by trying; and all items that some inputs meet."""
    sets = sorted({run.met() for run in all_runs(program, count, steps).values()}, key=lambda items: -len(items))
    sets = [some for k, some in enumerate(sets) if not any(set(some) <= set(other) for other in sets[:k])]
    items = {item for some in sets for item in some}
    for many in range(1, len(sets) + 1):
        for chosen in itertools.combinations(sets, many):
            if {item for some in chosen for item in some} == items:
                return many, items
    return None


class SuiteTest(unittest.TestCase):

    def compare(self, program, count, steps):
        """Compare a suite with all rows of sets of items; return how many rows it has."""
        value = suite(program, count, steps=steps)
        self.assertEqual((type(value), len(value)), (tuple, 3))
        rows, tree, refutation = value
        self.assertIs(type(rows), tuple)
        self.assertEqual(list(rows), sorted(set(rows)))
        runs = all_runs(program, count, steps)
        many, items = least_many(program, count, steps)
        self.assertEqual(len(rows), many)
        self.assertEqual({item for row in rows for item in runs[row].met()}, items)
        self.assertTrue(check_tree(program, count, tree, steps=steps))
        sets = tuple(way[2] for way in ways_of(program, count, tree, steps=steps))
        self.assertTrue(refutes(cover_clauses(sets, len(rows) - 1), refutation))
        self.assertIs(check_suite(program, count, value, steps=steps), True)
        return many

    def test_small_programs(self):
        for text, most in ((DEEP, 1), (TWICE, 2), (ARRAYS, 2), (TAKES, 4), (LOOP, 1)):
            for count in range(most + 1):
                for steps in (1, 2, 4, 7, 30):
                    self.compare(read_program(text), count, steps)

    def test_cases(self):
        self.assertEqual(self.compare(CASES, 2, 9), 4)
        self.assertEqual(self.compare(CASES, 1, 9), 4)
        self.assertEqual(self.compare(CASES, 0, 9), 1)
        self.assertEqual(self.compare(CASES, 2, 1), 1)
        self.assertEqual(self.compare(CASES, 2, 2), 2)

    def test_no_inputs(self):
        for program in (CASES, THREE, PLAIN):
            value = suite(program, 0, steps=9)
            self.assertEqual(value[:2], (((),), ("way", ())))
            self.assertTrue(check_suite(program, 0, value, steps=9))
            self.assertTrue(check_suite(program, 0, (((),), ("way", ()), ((),)), steps=9))

    def test_one_step(self):
        for count in (0, 1, 3):
            self.assertEqual(self.compare(PLAIN, count, 1), 1)
            self.assertEqual(self.compare(THREE, count, 1), 1)

    def test_no_steps_are_no_error(self):
        for program in (CASES, PLAIN):
            suite(program, 1, steps=0)
            self.assertFalse(check_suite(program, 1, (((0,),), ("way", (0,)), ((),)), steps=0))

    def test_programs_by_chance(self):
        found = []
        for seed in range(120):
            found.append(self.compare(Maker(seed).program(), seed % 3, 1 + seed % 15))
        for seed in range(60):
            program = Maker(seed + 300, width=1 + seed % 3, blocks=6, body=5, depth=3).program()
            found.append(self.compare(program, 2, 3 + seed % 14))
        for seed in range(150):
            program = TakingMaker(seed, width=1 + seed % 3, blocks=9, body=1).program()
            found.append(self.compare(program, 2 + seed % 2, 20))
        self.assertTrue(set(found) >= {1, 2, 3, 4}, set(found))

    def test_a_greedy_choice_that_is_not_the_least(self):
        sets = ((1, 2, 3, 4), (1, 2, 5), (3, 4, 6))
        self.assertEqual(len(greedy_cover(sets)), 3)
        chosen, refutation = least_cover(sets)
        self.assertEqual(sorted(chosen), [1, 2])
        self.assertTrue(refutes(cover_clauses(sets, 1), refutation))


class CheckTest(unittest.TestCase):

    def setUp(self):
        self.value = suite(CASES, 2, steps=9)
        self.rows, self.tree, self.refutation = self.value
        self.items = {row: set(run.met()) for row, run in all_runs(CASES, 2, 9).items()}
        self.all = set().union(*self.items.values())

    def check(self, value, expected, program=CASES, count=2, steps=9):
        self.assertIs(check_suite(program, count, value, steps=steps), expected, value)

    def test_other_rows_of_as_many(self):
        # Each four tuples that meet all items are a least suite, with the same tree and refutation.
        right = 0
        chance = random.Random(1)
        some = [chance.sample(sorted(self.items), 4) for _ in range(150)]
        some += [[(x, (x + k) % 4) for x in range(4)] for k in range(4)]
        for rows in some:
            rows = tuple(sorted(rows))
            expected = set().union(*[self.items[row] for row in rows]) == self.all
            right += expected
            self.check((rows, self.tree, self.refutation), expected)
        self.assertGreaterEqual(right, 4)

    def test_rows_left_out_put_in_changed_doubled_and_in_another_order(self):
        self.check(self.value, True)
        rows = self.rows
        for k in range(4):
            self.check((rows[:k] + rows[k + 1:], self.tree, self.refutation), False)
            self.check((tuple(sorted(rows + (rows[k],))), self.tree, self.refutation), False)
            for row in sorted(self.items):
                more = tuple(sorted(set(rows + (row,))))
                self.check((more, self.tree, self.refutation), more == rows)
                changed = tuple(sorted(rows[:k] + (row,) + rows[k + 1:]))
                expected = len(set(changed)) == 4 and set().union(*[self.items[x] for x in changed]) == self.all
                self.check((changed, self.tree, self.refutation), expected)
        for some in itertools.permutations(rows):
            self.check((some, self.tree, self.refutation), some == rows)

    def test_more_rows_with_a_refutation_of_their_own_number(self):
        sets = tuple(way[2] for way in ways_of(CASES, 2, self.tree, steps=9))
        more = tuple(sorted(set(self.rows + ((0, 0), (1, 1), (2, 2), (3, 3), (0, 1)))))
        self.assertGreater(len(more), 4)
        self.assertEqual(solve(cover_clauses(sets, len(more) - 1))[0], "yes")
        for refutation in (self.refutation, ((),), ((1,), ()), ((-1,), ())):
            self.check((more, self.tree, refutation), False)

    def test_refutations_for_other_numbers_of_rows(self):
        sets = tuple(way[2] for way in ways_of(CASES, 2, self.tree, steps=9))
        for most in (0, 1, 2, 3):
            answer, refutation = solve(cover_clauses(sets, most))
            self.assertEqual(answer, "no")
            self.check((self.rows, self.tree, refutation), refutes(cover_clauses(sets, 3), refutation))
        self.check((self.rows, self.tree, solve(cover_clauses(sets, 3))[1]), True)
        for k in range(len(self.refutation)):
            rows = self.refutation[:k] + self.refutation[k + 1:]
            self.check((self.rows, self.tree, rows), refutes(cover_clauses(sets, 3), rows))
        self.check((self.rows, self.tree, self.refutation[:-1]), False)
        self.check((self.rows, self.tree, ((),)), False)
        self.check((self.rows, self.tree, list(self.refutation)), False)
        self.check((self.rows, self.tree, ()), False)

    def test_other_trees(self):
        other = explore(CASES, 1, steps=9)
        self.check((self.rows, other, self.refutation), False)
        self.check((self.rows, explore(THREE, 2, steps=9), self.refutation), False)
        self.check((self.rows, self.tree[1], self.refutation), False)
        self.check((self.rows, ("fork", self.tree[2], self.tree[1]), self.refutation), False)
        self.check((self.rows, list(self.tree), self.refutation), False)
        for tree in (None, (), ("way", (0, 0)), ("shut", ((),)), self.rows):
            self.check((self.rows, tree, self.refutation), False)
        # With the inputs of other ones that go the same ways it is a tree, too.
        same = copy.deepcopy(self.tree)
        self.check((self.rows, same, self.refutation), True)

    def test_trees_of_the_same_ways_with_other_inputs(self):
        program = read_program("width 2\nprocedure main 0\nblock 0\nv0 = take\nif (v0 less 2) 1 2\nblock 1\nreturn 1\nblock 2\n"
                               "return 2\n")
        _, _, refutation = suite(program, 1, steps=9)
        for x, y, z, w in itertools.product(range(4), repeat=4):
            tree = ("fork", ("way", (z,)), ("way", (w,)))
            expected = x < y and (x < 2) != (y < 2) and z < 2 <= w
            self.check((((x,), (y,)), tree, refutation), expected, program=program, count=1)

    def test_rows_of_inputs_that_are_none(self):
        for wrong in ((), (0,), (0, 0, 0), (4, 0), (0, 4), (-1, 0), (True, 0), (0, False), (None, 0), ("0", 0), [0, 0], 0, None, "00",
                      (0, (0,)), (0, 10 ** 30)):
            self.check(((wrong,), self.tree, self.refutation), False)
            for k in range(4):
                self.check((self.rows[:k] + (wrong,) + self.rows[k + 1:], self.tree, self.refutation), False)
        for rows in ((), None, 0, "x", list(self.rows), {}, True):
            self.check((rows, self.tree, self.refutation), False)

    def test_plain_values(self):
        for value in ODD_VALUES + (self.rows, self.tree, list(self.value), self.value[:2], self.value + ((),), (self.value,),
                                   (self.tree, self.rows, self.refutation), (self.refutation, self.tree, self.rows),
                                   (None, None, None), (0, 0, 0), ("", "", ""), (True, True, True), (self.rows, self.tree, None),
                                   (self.rows, self.tree, 0), (self.rows, self.tree, "x"), (self.rows, self.tree, (None, ())),
                                   ((), self.tree, self.refutation), ((), self.tree, ((),))):
            self.check(value, False)

    def test_other_numbers_of_inputs_and_steps(self):
        self.check(self.value, False, count=1)
        self.check(self.value, False, count=3)
        self.check(self.value, False, steps=4)
        # The last decisions are made, and four ways are needed for the blocks 3 to 6.
        self.check(self.value, True, steps=5)
        self.check(self.value, True, steps=60)
        self.check(self.value, False, steps=1)
        self.check(self.value, False, program=THREE)

    def test_values_that_nest_deep(self):
        deep = ()
        for _ in range(20000):
            deep = (deep,)
        for value in (deep, (deep, deep, deep), (self.rows, deep, self.refutation), (self.rows, self.tree, deep),
                      ((deep,), self.tree, self.refutation)):
            self.check(value, False)

    def test_nothing_that_is_passed_in_is_changed(self):
        kept = copy.deepcopy((CASES, self.value))
        check_suite(CASES, 2, self.value, steps=9)
        rows = [list(self.rows), self.tree, list(self.refutation)]
        again = copy.deepcopy(rows)
        check_suite(CASES, 2, rows, steps=9)
        self.assertEqual(rows, again)
        self.assertEqual((CASES, self.value), kept)


def switches(first, second):
    """The items of the ways of two switches, one behind the other."""
    return tuple((("block", "main", k), ("block", "main", 100 + m)) for k in range(first) for m in range(second))


class LayersTest(unittest.TestCase):

    def check(self, sets):
        """Look at the least cover of some sets, and return how many sets it has."""
        chosen, refutation = least_cover(sets)
        items = {item for some in sets for item in some}
        self.assertEqual({item for k in chosen for item in sets[k]}, items)
        self.assertEqual(len(set(chosen)), len(chosen))
        if items:
            self.assertTrue(all(is_clause(row) for row in refutation))
            self.assertTrue(refutes(cover_clauses(sets, len(chosen) - 1), refutation))
        return len(chosen)

    def test_against_all_covers(self):
        chance = random.Random(8)
        for _ in range(600):
            m, share = chance.randint(1, 7), chance.random()
            sets = tuple(tuple(item for item in range(chance.randint(1, 7)) if chance.random() < share) for _ in range(m))
            many = self.check(sets)
            self.assertTrue(some_cover(sets, many))
            self.assertFalse(many > 0 and some_cover(sets, many - 1))

    def test_refutations_in_layers(self):
        chance = random.Random(9)
        made = 0
        for _ in range(600):
            m, share = chance.randint(1, 7), chance.random()
            sets = tuple(tuple(item for item in range(chance.randint(1, 7)) if chance.random() < share) for _ in range(m))
            for most in range(m):
                refutation = layered_refutation(sets, most, 10000)
                self.assertEqual(refutation is None, some_cover(sets, most), (sets, most))
                if refutation is not None:
                    self.assertTrue(refutes(cover_clauses(sets, most), refutation))
                    made += 1
                few = layered_refutation(sets, most, 2)
                self.assertTrue(few is None or (len(few) <= 2 and refutes(cover_clauses(sets, most), few)))
        self.assertGreater(made, 800)

    def test_two_switches(self):
        for first, second in ((4, 4), (3, 5), (5, 3), (8, 6), (6, 7), (12, 12), (20, 20), (7, 8)):
            self.assertEqual(self.check(switches(first, second)), max(first, second))

    def test_what_is_decided_for_each_number(self):
        sets = switches(3, 4)
        for most in range(8):
            answer, found = decide_cover(sets, most)
            self.assertEqual(answer, "yes" if most >= 4 else "no")
            if answer == "no":
                self.assertTrue(refutes(cover_clauses(sets, most), found))
            else:
                self.assertTrue(all(set(clause) & set(found) for clause in cover_clauses(sets, most)))

    def test_larger_sets_by_chance(self):
        chance = random.Random(10)
        for _ in range(15):
            share, most = chance.random() * 0.3, chance.randint(10, 20)
            sets = tuple(tuple(item for item in range(most) if chance.random() < share) for _ in range(chance.randint(20, 60)))
            self.check(sets)

    def test_many_sets(self):
        sets = tuple((k // 7, 100 + k % 11, 200 + k) if k % 40 == 0 else (k // 7, 100 + k % 11) for k in range(400))
        self.assertEqual(self.check(sets), 58)


class BoundsTest(unittest.TestCase):

    def test_four_hundred_ways(self):
        lines = ["width 16\nprocedure main 0\nblock 0\nv0 = take\nv1 = take\nv0 = f(v0)\nv1 = g(v1)\nreturn (v0 add v1)\n"]
        for name in "fg":
            lines.append(f"procedure {name} 1\n")
            for k in range(14):
                lines.append(f"block {k}\nif (v0 equal {k}) {20 + k} {k + 1}\n")
            lines.append("block 14\nreturn 99\n" + "".join(f"block {20 + k}\nreturn {k}\n" for k in range(14)))
        program = read_program("width 16\n" + "".join(lines[1:]) + lines[0][len("width 16\n"):])
        value = suite(program, 2, steps=60)
        self.assertEqual(len(value[0]), 15)
        self.assertEqual(len(ways_of(program, 2, value[1], steps=60)), 225)
        self.assertTrue(check_suite(program, 2, value, steps=60))

    def test_no_function_is_open_more_than_100_times(self):
        program = read_program(LOOP)
        value = suite(program, 1, steps=60)
        self.assertLessEqual(deepest_calls(lambda: suite(program, 1, steps=60)), 100)
        self.assertLessEqual(deepest_calls(lambda: check_suite(program, 1, value, steps=60)), 100)
        self.assertLessEqual(deepest_calls(lambda: least_cover(switches(9, 9))), 100)


if __name__ == "__main__":
    unittest.main()
