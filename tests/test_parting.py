"""The tests of parting, parting_clauses and check_parting of inputways.compare: promises [14.1] and [14.2], and [0.1] (5)."""

import copy
import unittest

from chance import Maker, TakingMaker
from inputways.compare import check_parting, parting, parting_clauses
from inputways.programs import program_faults
from inputways.refuter import refutes
from inputways.solver import solve
from inputways.text import read_program
from plain_clauses import is_clause
from plain_runs import PlainRun
from plain_trees import all_inputs
from samples import ODD_VALUES
from test_unrolling import ARRAYS, DEEP, LOOP, TAKES, TWICE
from watching import deepest_calls

HEAD = "width 3\narray a 3\nprocedure f 1\nblock 0\nv1 = f(v0)\nreturn v1\nprocedure main 0\nblock 0\n"
OTHER = "width 3\narray b 5\narray c 2\nprocedure main 0\nblock 7\n"
# Twice the lesser one of two words, and the sum of both; which is found in two ways.
FIRST = read_program("width 4\nprocedure main 0\nblock 0\nv0 = take\nv1 = take\nif (v0 less v1) 1 2\nblock 1\nput (v0 add v0)\n"
                     "return (v0 add v1)\nblock 2\nput (v1 add v1)\nreturn (v1 add v0)\n")
SECOND = read_program("width 4\narray a 2\nprocedure lesser 2\nblock 0\nv2 = (0 sub (v0 less v1))\n"
                      "return ((v0 and v2) or (v1 and not(v2)))\nprocedure main 0\nblock 9\nv5 = take\nv6 = take\n"
                      "a[1] = v6\nv7 = lesser(v5, a[1])\nput (v7 shl 1)\nreturn (((v5 xor v6) add ((v5 and v6) shl 1)) add a[0])\n")
# As SECOND, but at one row of inputs.
THIRD = read_program("width 4\nprocedure main 0\nblock 0\nv0 = take\nv1 = take\nif (v0 less v1) 1 2\nblock 1\nput (v0 add v0)\n"
                     "return (v0 add v1)\nblock 2\nput ((v1 add v1) add ((v0 equal 11) and (v1 equal 6)))\nreturn (v1 add v0)\n")


def seen(program, row, steps):
    """What is seen of a run."""
    run = PlainRun(program, row, steps)
    return tuple(run.writes), run.end if run.end[0] in ("return", "broken") else run.end[:1]


class PartingTest(unittest.TestCase):

    def compare(self, first, second, count, steps):
        """Compare the answer with the runs of both programs for all inputs; return how they are seen."""
        self.assertEqual((program_faults(first), program_faults(second)), ([], []))
        rows = list(all_inputs(first, count))
        apart = [row for row in rows if seen(first, row, steps) != seen(second, row, steps)]
        value = parting(first, second, count, steps=steps)
        self.assertEqual((type(value), len(value)), (tuple, 2))
        self.assertEqual(value[0], "apart" if apart else "alike")
        if apart:
            self.assertIs(type(value[1]), tuple)
            self.assertTrue(all(type(x) is int for x in value[1]))
            self.assertIn(value[1], apart)
        else:
            self.assertTrue(refutes(parting_clauses(first, second, count, steps=steps), value[1]))
        self.assertIs(check_parting(first, second, count, value, steps=steps), True)
        for row in rows[:20]:
            self.assertIs(check_parting(first, second, count, ("apart", row), steps=steps), row in apart)
        self.assertIs(check_parting(second, first, count, parting(second, first, count, steps=steps), steps=steps), True)
        return value[0]

    def check(self, first, second, expected, count=1, steps=20, heads=(HEAD, HEAD)):
        programs = [read_program(head + text + "\n") for head, text in zip(heads, (first, second))]
        self.assertEqual(self.compare(programs[0], programs[1], count, steps), expected, (first, second))

    def test_what_is_written(self):
        self.check("v0 = take\nput v0\nreturn 1", "v0 = take\nput v0\nreturn 1", "alike")
        self.check("v0 = take\nput v0\nreturn 1", "v0 = take\nput (v0 and 6)\nreturn 1", "apart")
        self.check("v0 = take\nput v0\nreturn 1", "v0 = take\nreturn 1", "apart")
        self.check("v0 = take\nput 0\nreturn 1", "v0 = take\nreturn 1", "apart")
        self.check("v0 = take\nput v0\nput 1\nreturn 1", "v0 = take\nput 1\nput v0\nreturn 1", "apart")
        self.check("v0 = take\nput v0\nput 0\nreturn 1", "v0 = take\nput v0\nput 0\nput 0\nreturn 1", "apart")
        self.check("v0 = take\nput (v0 add v0)\nput 1\nreturn 1", "v0 = take\nput (v0 shl 1)\nput 1\nreturn 1", "alike")

    def test_how_many_words_are_written_hangs_on_inputs(self):
        text = "v0 = take\nif (v0 and {}) 1 2\nblock 1\nput 5\ngo 2\nblock 2\nif (v0 and {}) 3 4\nblock 3\nput 5\ngo 4\nblock 4\n" \
               "put v0\nreturn 0"
        self.check(text.format(1, 2), text.format(2, 1), "alike")
        self.check(text.format(1, 2), text.format(1, 4), "apart")
        self.check(text.format(1, 2), text.format(2, 1).replace("block 3\nput 5", "block 3\nput 6"), "apart")
        loop = "v0 = take\ngo 1\nblock 1\nif v0 2 3\nblock 2\nput v0\nv0 = (v0 sub 1)\ngo 1\nblock 3\nput 7\nreturn 0"
        self.check(loop, loop, "alike", steps=40)
        self.check(loop, loop.replace("put 7", "put 6"), "apart", steps=40)
        # What differs is only written by long runs.
        counting = loop.replace("put v0", "put v1\nv1 = (v1 add 1)")
        for steps in range(20):
            expected = "apart" if steps >= 11 else "alike"
            self.check(counting, counting.replace("put v1", "put (v1 and 3)"), expected, steps=steps)

    def test_runs_that_have_written_so_many_words_meet_again(self):
        # Both sides come to block 3 at one time, behind words of different numbers.
        text = "v0 = take\nif (v0 and 1) 1 2\nblock 1\nput v0\nput 1\ngo 3\nblock 2\ngo 3\nblock 3\nput {}\nif (v0 and 2) 4 5\n" \
               "block 4\nput 2\ngo 6\nblock 5\nput 3\nput 2\ngo 6\nblock 6\nput {}\nreturn 0"
        turned = text.replace("if (v0 and 1) 1 2", "if (v0 and 1) 8 9").replace("block 1\n", "block 8\n").replace(
            "block 2\n", "block 9\n").replace("if (v0 and 2) 4 5", "if ((v0 and 2) equal 0) 5 4")
        self.check(text.format("v0", "5"), turned.format("v0", "5"), "alike")
        self.check(text.format("v0", "5"), turned.format("(v0 and 3)", "5"), "apart")
        self.check(text.format("v0", "v0"), turned.format("v0", "(v0 or (v0 equal 4))"), "apart")
        self.check(text.format("v0", "5"), turned.format("v0", "5").replace("put v0\nput 1", "put v0"), "apart")
        self.check(text.format("v0", "5"), turned.format("v0", "5").replace("put 3\nput 2", "put 2"), "apart")
        # The same words, but in other blocks.
        self.check("v0 = take\nif v0 1 2\nblock 1\nput 1\nput 2\ngo 3\nblock 2\nput 1\ngo 3\nblock 3\nput 3\nput v0\nreturn 0",
                   "v0 = take\nif v0 1 2\nblock 1\nput 1\nput 2\ngo 3\nblock 2\nput 1\ngo 3\nblock 3\nput 3\nput v0\nreturn 0"
                   .replace("put 2\ngo 3", "go 3").replace("block 3\n", "block 3\nif v0 4 5\nblock 4\nput 2\ngo 5\nblock 5\n"), "alike")

    def test_what_main_returns(self):
        self.check("v0 = take\nreturn v0", "v0 = take\nreturn (v0 or 0)", "alike")
        self.check("v0 = take\nreturn v0", "v0 = take\nreturn (v0 or 1)", "apart")
        self.check("v0 = take\nreturn 0", "v0 = take\nreturn (v0 and 0)", "alike")
        self.check("v0 = take\nif v0 1 2\nblock 1\nreturn 3\nblock 2\nreturn 4", "v0 = take\nif v0 2 1\nblock 2\nreturn 3\n"
                   "block 1\nreturn 4", "alike")

    def test_which_assertion_is_broken(self):
        self.check("v0 = take\nassert 1 v0\nreturn 0", "v0 = take\nassert 1 v0\nreturn 0", "alike")
        self.check("v0 = take\nassert 1 v0\nreturn 0", "v0 = take\nassert 2 v0\nreturn 0", "apart")
        self.check("v0 = take\nassert 1 v0\nreturn 0", "v0 = take\nreturn 0", "apart")
        self.check("v0 = take\nassert 1 v0\nassert 2 (v0 and 1)\nreturn 0", "v0 = take\nassert 2 (v0 and 1)\nassert 1 v0\nreturn 0", "apart")
        self.check("v0 = take\nassert 1 v0\nassert 1 (v0 and 1)\nreturn 0", "v0 = take\nassert 1 (v0 and 1)\nassert 1 v0\nreturn 0", "alike")
        # In other blocks and at other statements, it is the same assertion.
        self.check("v0 = take\nassert 1 v0\nreturn 0", "v0 = take\ngo 5\nblock 5\nv1 = 0\nassert 1 v0\nreturn 0", "alike")

    def test_of_other_ends_the_first_item_is_seen(self):
        index = ("v0 = take\nput a[v0]\nreturn 0", "v0 = take\ngo 3\nblock 3\nv0 = v0\nput a[v0]\nreturn 0")
        self.check(index[0], index[1], "alike")
        self.check(index[0], "v0 = take\nput (v0 and 0)\nreturn 0", "apart")
        self.check(index[0], "v0 = take\nput 0\nv1 = a[v0]\nreturn 0", "apart")
        # In another procedure, too, and at the end of a block.
        called = (HEAD.replace("v1 = f(v0)\nreturn v1", "v1 = 3\nv1 = a[v0]\nreturn 0"), HEAD)
        self.check("v0 = take\nv0 = f(v0)\nreturn 0", index[0].replace("put", "v1 ="), "alike", heads=called)
        self.check("v0 = take\nv0 = f(v0)\nreturn 0", "v0 = take\nif (v0 less 3) 1 2\nblock 1\nreturn 0\nblock 2\nreturn a[v0]",
                   "alike", heads=called)
        deeper = (HEAD.replace("v1 = f(v0)", "v2 = 1\ngo 1\nblock 1\nv1 = f(v0)"), HEAD)
        self.check("v0 = f(1)\nreturn 0", "v0 = f(1)\nreturn 0", "alike", steps=60, heads=deeper)
        deep = ("v0 = take\nif v0 1 2\nblock 1\nv0 = f(1)\nreturn 0\nblock 2\nreturn 0",
                "v0 = take\nif v0 1 2\nblock 1\ngo 3\nblock 3\nv2 = 1\nv0 = f(v2)\nreturn 0\nblock 2\nreturn 0")
        self.check(deep[0], deep[1], "alike")
        self.check(deep[0], deep[1], "apart", steps=13)
        none = ("v0 = take\nif v0 1 2\nblock 1\ngo 1\nblock 2\nreturn 0", "v0 = take\nif v0 4 3\nblock 4\ngo 5\nblock 5\ngo 4\nblock 3\nreturn 0")
        self.check(none[0], none[1], "alike")
        self.check(none[0], index[0], "apart")
        self.check(deep[0], none[0], "apart")
        self.check(deep[0], none[0], "alike", steps=4)
        self.check("v0 = take\nreturn a[3]", "v0 = take\na[7] = 0\nreturn 0", "alike")
        self.check("v0 = take\nreturn a[3]", "v0 = take\nassert 1 0\nreturn 0", "apart")

    def test_programs_of_other_arrays_and_procedures(self):
        self.check("v0 = take\nput a[v0]\nreturn 0", "v0 = take\nput (v0 less 3)\nreturn 0", "apart", heads=(HEAD, OTHER))
        self.check("v0 = take\na[(v0 and 1)] = 3\nreturn (a[0] sub a[1])", "v0 = take\nif (v0 and 1) 1 2\nblock 1\nreturn neg(3)\n"
                   "block 2\nreturn 3", "alike", heads=(HEAD, OTHER))
        self.check("v0 = take\nput a[v0]\nreturn 0", "v0 = take\nput b[v0]\nreturn 0", "apart", heads=(HEAD, OTHER))
        self.check("v0 = take\nput a[(v0 and 2)]\nreturn 0", "v0 = take\nput b[(v0 and 3)]\nreturn 0", "alike", heads=(HEAD, OTHER))

    def test_inputs_and_steps(self):
        texts = ("v0 = take\nv1 = take\nreturn v1", "v0 = take\nv1 = take\nreturn (v1 mul (v0 equal v0))")
        for count in range(4):
            self.check(texts[0], texts[1], "alike", count=count if count < 3 else 0)
        texts = ("v0 = take\nv1 = take\nreturn v1", "v0 = take\nreturn 0")
        self.check(texts[0], texts[1], "alike", count=0)
        self.check(texts[0], texts[1], "alike", count=1)
        self.check(texts[0], texts[1], "apart", count=2)
        self.check(texts[0], texts[1], "alike", count=2, steps=0)
        self.check("return 1", "return 2", "alike", count=0, steps=0)
        self.check("return 1", "return 2", "apart", count=0, steps=1)

    def test_larger_programs(self):
        self.assertEqual(self.compare(FIRST, SECOND, 2, 60), "alike")
        self.assertEqual(self.compare(FIRST, SECOND, 2, 1), "alike")
        self.assertEqual(self.compare(SECOND, THIRD, 2, 60), "apart")
        self.assertEqual(parting(SECOND, THIRD, 2, steps=60), ("apart", (11, 6)))
        for text, count in ((DEEP, 1), (TWICE, 2), (ARRAYS, 2), (TAKES, 3), (LOOP, 1)):
            program = read_program(text)
            self.assertEqual(self.compare(program, program, count, 12), "alike")
            other = read_program(text.replace("v0 = take", "v0 = take\nv0 = (v0 add 1)", 1))
            self.assertEqual(self.compare(program, other, count, 12), "apart")

    def test_wide_words(self):
        first = read_program("width 16\nprocedure main 0\nblock 0\nv0 = take\nv1 = take\nput (v0 sub v1)\nreturn (v0 xor v1)\n")
        second = read_program("width 16\nprocedure main 0\nblock 0\nv0 = take\nv1 = take\nput (v0 add (not(v1) add 1))\n"
                              "return ((v0 or v1) and not((v0 and v1)))\n")
        value = parting(first, second, 2, steps=5)
        self.assertEqual(value[0], "alike")
        self.assertTrue(check_parting(first, second, 2, value, steps=5))
        third = read_program("width 16\nprocedure main 0\nblock 0\nv0 = take\nv1 = take\nput (v0 sub v1)\n"
                             "return ((v0 xor v1) xor (((v0 mul 24243) equal 12345) and (v1 equal 999)))\n")
        value = parting(second, third, 2, steps=5)
        self.assertEqual(value[0], "apart")
        self.assertEqual((value[1][0] * 24243 % 2 ** 16, value[1][1]), (12345, 999))
        self.assertTrue(check_parting(second, third, 2, value, steps=5))

    def test_programs_by_chance(self):
        answers = []
        for seed in range(150):
            width = 1 + seed % 3
            kind = (Maker, TakingMaker)[seed % 2]
            first = kind(seed, width=width, blocks=5, body=4).program()
            second = kind(seed + 1000 * (seed % 3), width=width, blocks=5, body=4).program()
            if seed % 3 == 0:
                second = changed(first, seed)
            answers.append(self.compare(first, second, seed % 3, 1 + seed % 14))
        self.assertGreater(answers.count("alike"), 20)
        self.assertGreater(answers.count("apart"), 40)


def changed(program, seed):
    """The program with another number in one of its expressions, if there is any."""
    text = repr(program)
    place = [k for k in range(len(text)) if text.startswith("('int', ", k)]
    if not place:
        return program
    at = place[seed % len(place)] + len("('int', ")
    return eval(text[:at] + str((int(text[at]) + 1) % 2 ** program[0]) + text[at + 1:])


class ClausesTest(unittest.TestCase):

    def test_their_form(self):
        for first, second in ((FIRST, SECOND), (FIRST, THIRD), (FIRST, FIRST)):
            clauses = parting_clauses(first, second, 2, steps=9)
            self.assertIs(type(clauses), tuple)
            self.assertTrue(all(is_clause(clause) for clause in clauses))
            self.assertEqual(clauses, parting_clauses(first, second, 2, steps=9))

    def test_some_filling_keeps_them_just_where_some_inputs_part(self):
        for seed in range(60):
            first = TakingMaker(seed, width=2, blocks=4).program()
            second = changed(first, seed)
            apart = any(seen(first, row, 9) != seen(second, row, 9) for row in all_inputs(first, 2))
            self.assertEqual(solve(parting_clauses(first, second, 2, steps=9))[0], "yes" if apart else "no")


class CheckTest(unittest.TestCase):

    def check(self, first, second, value, expected, count=2, steps=9):
        self.assertIs(check_parting(first, second, count, value, steps=steps), expected, value)

    def test_each_row(self):
        for first, second in ((FIRST, SECOND), (SECOND, THIRD), (FIRST, THIRD)):
            for row in all_inputs(FIRST, 2):
                self.check(first, second, ("apart", row), seen(first, row, 9) != seen(second, row, 9))
        self.check(FIRST, THIRD, ("apart", (11, 6)), True)
        self.check(FIRST, THIRD, ("apart", (6, 11)), False)
        self.check(FIRST, THIRD, ("apart", (11, 6)), False, steps=1)

    def test_refutations_with_a_row_left_out_or_changed(self):
        right = parting(FIRST, SECOND, 2, steps=9)
        clauses = parting_clauses(FIRST, SECOND, 2, steps=9)
        self.check(FIRST, SECOND, right, True)
        rows = right[1]
        self.assertGreater(len(rows), 5)
        refused = 0
        for k in range(len(rows)):
            for some in (rows[:k] + rows[k + 1:], rows[:k] + (rows[k][:-1],) + rows[k + 1:], rows[:k] + (rows[k][1:],) + rows[k + 1:],
                         rows[:k] + (tuple(-x for x in rows[k]),) + rows[k + 1:], rows[:k]):
                expected = refutes(clauses, some)
                refused += not expected
                self.check(FIRST, SECOND, ("alike", some), expected)
        self.assertGreater(refused, len(rows))
        self.check(FIRST, SECOND, ("alike", list(rows)), False)
        self.check(FIRST, SECOND, list(right), False)
        self.check(FIRST, SECOND, ("alike", rows, 0), False)
        self.check(FIRST, THIRD, right, False)

    def test_no_refutation_where_some_inputs_part(self):
        for refutation in (((),), ((1,), ()), ((-1,), ()), ((1,), (-1,), ())):
            self.check(FIRST, THIRD, ("alike", refutation), False)
            self.check(FIRST, FIRST, ("alike", refutation), True)

    def test_inputs_that_are_none(self):
        for row in ((), (11,), (11, 6, 0), (16, 6), (11, -1), (True, 6), (11, None), [11, 6], 11, None, "ab", ((11, 6),), (11, (6,)),
                    (11.0, 6)):
            self.check(FIRST, THIRD, ("apart", row), False)
        self.check(FIRST, THIRD, ["apart", (11, 6)], False)
        self.check(FIRST, THIRD, ("apart", (11, 6), 0), False)
        self.check(FIRST, THIRD, ("apart", (11, 6, 3)), True, count=3)
        self.check(FIRST, THIRD, ("apart", (11, 6)), False, count=3)

    def test_plain_values(self):
        for value in ODD_VALUES + (("apart",), ("alike",), ("apart", None), ("alike", None), ("alike", ()), ("alike", 0), ("alike", "x"),
                                   ("Apart", (11, 6)), ("met", (11, 6)), ("never", ((),)), (None, (11, 6)), ((11, 6), "apart"),
                                   ("alike", (None, ())), ("alike", ((0,), ())), ("apart", "alike"), ((), ()), (("apart",), (11, 6))):
            self.check(FIRST, THIRD, value, False)
            self.check(FIRST, SECOND, value, False)

    def test_values_that_nest_deep(self):
        deep = ()
        for _ in range(20000):
            deep = (deep,)
        for value in (deep, ("apart", deep), ("alike", deep), ("alike", (deep, ()))):
            self.check(FIRST, SECOND, value, False)


class BoundsTest(unittest.TestCase):

    def test_sixty_blocks_of_six_inputs(self):
        text = "width 16\narray a 8\nprocedure main 0\nblock 0\n" + "".join(f"v0 = take\na[{k}] = v0\n" for k in range(6)) \
            + "go 1\nblock 1\nput a[v2]\nif (a[v2] and 1) 2 3\nblock 2\nput v2\ngo 3\nblock 3\nv2 = (v2 add 1)\nif (v2 less 6) 1 4\n" \
            + "block 4\nreturn 5\n"
        first = read_program(text)
        second = read_program(text.replace("(a[v2] and 1)", "(((a[v2] shl 15) shr 15) equal 1)"))
        value = parting(first, second, 6, steps=60)
        self.assertEqual(value[0], "alike")
        self.assertTrue(check_parting(first, second, 6, value, steps=60))
        third = read_program(text.replace("return 5", "return (5 add (a[5] equal 54321))"))
        value = parting(second, third, 6, steps=60)
        self.assertEqual((value[0], value[1][5]), ("apart", 54321))
        self.assertTrue(check_parting(second, third, 6, value, steps=60))

    def test_no_function_is_open_more_than_100_times(self):
        first, second = read_program(DEEP), read_program(DEEP.replace("assert 4 0", "assert 5 0"))
        value = parting(first, second, 1, steps=60)
        self.assertLessEqual(deepest_calls(lambda: parting(first, second, 1, steps=60)), 100)
        self.assertLessEqual(deepest_calls(lambda: check_parting(first, second, 1, value, steps=60)), 100)

    def test_nothing_that_is_passed_in_is_changed(self):
        value = parting(FIRST, SECOND, 2, steps=9)
        kept = copy.deepcopy((FIRST, SECOND, value))
        parting_clauses(FIRST, SECOND, 2, steps=9)
        check_parting(FIRST, SECOND, 2, value, steps=9)
        rows = ["alike", list(value[1])]
        check_parting(FIRST, SECOND, 2, rows, steps=9)
        self.assertEqual(rows, ["alike", list(value[1])])
        self.assertEqual((FIRST, SECOND, value), kept)


if __name__ == "__main__":
    unittest.main()
