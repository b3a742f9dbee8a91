"""The tests of check_claims, kept and prove of inputways.claims: promises [11.3] and [11.4], and [0.1] (3)."""

import copy
import random
import unittest

from chance import ClaimMaker
from inputways.claims import are_claims, check_claims, kept, obligations, prove
from inputways.programs import program_faults
from inputways.refuter import refutes
from inputways.text import read_program
from plain_runs import PlainRun
from plain_walks import TooMany, all_happens, goals_of, greatest_part, value_of
from samples import ODD_VALUES
from watching import deepest_calls

ONE, ZERO, V0, V1, GAVE = ("int", 1), ("int", 0), ("var", 0), ("var", 1), ("gave",)

# A loop that counts up to 10, which is what its assertions say.
COUNTING = read_program(
    "width 8\nprocedure main 0\nblock 0\nv0 = take\ngo 1\nblock 1\nassert 1 (v1 less 11)\nif (v1 less 10) 2 3\n"
    "block 2\nassert 2 (v1 less 10)\nv1 = (v1 add 1)\ngo 1\nblock 3\nassert 3 (v1 equal 10)\ngo 3\n")
UP_TO_10 = (((("main", 1), (("less", V1, ("int", 11)),)), (("main", 2), (("less", V1, ("int", 10)),)),
             (("main", 3), (("equal", V1, ("int", 10)),))), ())
# A procedure that returns the greater one of two words, whatever they are.
GREATER = read_program(
    "width 4\nprocedure greater 2\nblock 0\nif (v0 less v1) 1 2\nblock 1\nreturn v1\nblock 2\nreturn v0\n"
    "procedure main 0\nblock 0\nv0 = take\nv1 = take\nv2 = greater(v0, v1)\nassert 1 ((v2 less v0) equal 0)\n"
    "assert 2 ((v2 less v1) equal 0)\nassert 3 ((v2 equal v0) or (v2 equal v1))\nreturn v2\n")


def is_word(k):
    """The claim that variable k is still argument k."""
    return ("equal", ("var", k), ("was", k))


GREATER_CLAIMS = (
    ((("greater", 1), (is_word(0), is_word(1), ("less", V0, V1))),
     (("greater", 2), (is_word(0), is_word(1), ("equal", ("less", V0, V1), ZERO)))),
    (("greater", (("equal", ("less", GAVE, ("was", 0)), ZERO), ("equal", ("less", GAVE, ("was", 1)), ZERO),
                  ("or", ("equal", GAVE, ("was", 0)), ("equal", GAVE, ("was", 1))))),))


class ClaimRun(PlainRun):
    """A run that looks at claims."""

    def __init__(self, program, inputs, steps, claims):
        self.rows, self.given = dict(claims[0]), dict(claims[1])
        self.seen, self.wrong = 0, []
        super().__init__(program, inputs, steps)

    def begins(self, name, label, words, variables):
        self.judge(self.rows.get((name, label), ()), variables, words, None)

    def gives(self, name, words, word):
        self.judge(self.given.get(name, ()), {}, words, word)

    def judge(self, claims, variables, words, word):
        for value in claims:
            self.seen += 1
            if value_of(value, self.width, variables, words, word) == 0:
                self.wrong.append((value, variables, words, word))


class RunsTest(unittest.TestCase):

    def check_runs(self, program, claims, rows, steps):
        """Look at claims that check_claims has taken in some runs; return how often one was looked at."""
        seen = 0
        for row in rows:
            run = ClaimRun(program, row, steps, claims)
            self.assertEqual(run.wrong, [])
            self.assertNotEqual(run.end[0], "broken")
            seen += run.seen
        return seen

    def test_a_loop(self):
        found = prove(COUNTING, UP_TO_10)
        self.assertEqual(found[0], UP_TO_10)
        self.assertTrue(check_claims(COUNTING, found))
        self.assertGreater(self.check_runs(COUNTING, UP_TO_10, [(), (7,)], 2000), 2000)

    def test_a_procedure(self):
        found = prove(GREATER, GREATER_CLAIMS)
        self.assertEqual(found[0], GREATER_CLAIMS)
        self.assertTrue(check_claims(GREATER, found))
        rows = [(x, y) for x in range(16) for y in range(16)]
        self.assertEqual(self.check_runs(GREATER, GREATER_CLAIMS, rows, 60), 6 * 256)

    def test_a_procedure_that_calls_itself(self):
        program = read_program(
            "width 4\narray a 3\nprocedure half 1\nblock 0\nif (v0 less 2) 1 2\nblock 1\nreturn 0\n"
            "block 2\nv1 = half((v0 sub 2))\na[(v1 and 1)] = v1\nreturn (v1 add 1)\n"
            "procedure main 0\nblock 0\nv0 = take\nv1 = half(v0)\nassert 1 (v1 less 8)\ngo 1\nblock 1\n"
            "assert 2 (v1 equal (v0 shr 1))\nreturn 1\n")
        claims = (((("half", 1), (("less", V0, ("int", 2)), is_word(0))),
                   (("half", 2), (("less", ONE, V0), is_word(0))),
                   (("main", 1), (("equal", V1, ("shr", V0, ONE)),))),
                  (("half", (("equal", GAVE, ("shr", ("was", 0), ONE)),)),))
        self.assertEqual(program_faults(program), [])
        found = prove(program, claims)
        self.assertEqual(found[0], claims)
        self.assertTrue(check_claims(program, found))
        self.assertGreater(self.check_runs(program, claims, [(x,) for x in range(16)], 60), 100)

    def test_programs_and_claims_by_chance(self):
        chance = random.Random(5)
        taken = seen = 0
        for seed in range(250):
            maker = ClaimMaker(seed, width=1 + seed % 3, blocks=5)
            program = maker.program()
            found = prove(program, maker.claims(program, share=0.8))
            if found is not None:
                taken += 1
                self.assertTrue(check_claims(program, found))
                rows = [tuple(chance.randrange(2 ** program[0]) for _ in range(5)) for _ in range(8)]
                seen += self.check_runs(program, found[0], rows, 60)
        self.assertGreater(taken, 40)
        self.assertGreater(seen, 300)

    def test_loops_by_chance(self):
        # Programs of some blocks that lead to each other in all ways, so that their runs are long.
        chance = random.Random(6)
        taken = seen = 0
        for seed in range(150):
            maker = ClaimMaker(seed, width=2, arrays=False)
            maker.params = {}
            ops = [("if", maker.word(2), chance.choice((1, 2, 3)), chance.choice((1, 2, 3))) for _ in range(4)]
            bodies = [tuple(("set", chance.randrange(3), maker.word(2)) for _ in range(chance.randrange(3))) for _ in range(4)]
            program = (2, (), (("main", 0, tuple((k, bodies[k] + (("take", 2),) * (k % 2), ops[k]) for k in range(4))),))
            self.assertEqual(program_faults(program), [])
            claims = maker.claims(program, share=0.9, most=4)
            found = prove(program, claims)
            self.assertIsNotNone(found)
            taken += found[0] != ((), ())
            self.assertTrue(check_claims(program, found))
            rows = [tuple(chance.randrange(4) for _ in range(6)) for _ in range(3)]
            seen += self.check_runs(program, found[0], rows, 300)
        self.assertGreater(taken, 100)
        self.assertGreater(seen, 10000)


class CheckTest(unittest.TestCase):

    def check(self, program, value, expected):
        self.assertIs(check_claims(program, value), expected, value)

    def expected(self, program, value):
        """Whether a pair of a tuple for claims and of another one is right, by the parts of the definition."""
        claims, refutations = value
        if not are_claims(program, claims):
            return False
        clauses = obligations(program, claims)
        return len(clauses) == len(refutations) and all(refutes(row, some) for row, some in zip(clauses, refutations))

    def test_refutations_left_out_put_in_and_exchanged(self):
        for program, claims in ((COUNTING, UP_TO_10), (GREATER, GREATER_CLAIMS)):
            found, refutations = prove(program, claims)
            self.check(program, (found, refutations), True)
            for k in range(len(refutations)):
                self.check(program, (found, refutations[:k] + refutations[k + 1:]), False)
                for extra in (((),), refutations[k], None):
                    self.check(program, (found, refutations[:k] + (extra,) + refutations[k:]), False)
                self.check(program, (found, refutations[:k] + (None,) + refutations[k + 1:]), False)
                self.check(program, (found, refutations[:k] + (list(refutations[k]),) + refutations[k + 1:]), False)
                self.check(program, (found, refutations[:k] + ((),) + refutations[k + 1:]), False)
                self.check(program, (found, refutations[:k] + (refutations[k][:-1],) + refutations[k + 1:]), False)
                for m in range(len(refutations)):
                    some = list(refutations)
                    some[k], some[m] = some[m], some[k]
                    self.check(program, (found, tuple(some)), self.expected(program, (found, some)))
            self.check(program, (found, refutations + (((),),)), False)
            self.check(program, (found, ()), False)

    def test_rows_of_refutations_left_out_and_changed(self):
        refused = 0
        for program, claims in ((COUNTING, UP_TO_10), (GREATER, GREATER_CLAIMS)):
            found, refutations = prove(program, claims)
            for k, refutation in enumerate(refutations):
                for m in range(len(refutation)):
                    for row in ((), refutation[m][:-1], refutation[m][1:], tuple(-x for x in refutation[m])):
                        for some in (refutation[:m] + refutation[m + 1:], refutation[:m] + (row,) + refutation[m + 1:]):
                            value = (found, refutations[:k] + (some,) + refutations[k + 1:])
                            expected = self.expected(program, value)
                            refused += not expected
                            self.check(program, value, expected)
        self.assertGreater(refused, 20)

    def test_claims_left_out_put_in_and_changed(self):
        found, refutations = prove(COUNTING, UP_TO_10)
        rows = found[0]
        for k in range(len(rows)):
            self.check(COUNTING, ((rows[:k] + rows[k + 1:], ()), refutations), False)
            # As many obligations, but other claims.
            for value in (ZERO, V0, ("less", V1, ("int", 9)), ("less", ("int", 3), V1)):
                some = rows[:k] + ((rows[k][0], (value,)),) + rows[k + 1:]
                value = ((some, ()), refutations)
                self.assertEqual(len(obligations(COUNTING, value[0])), len(refutations))
                self.check(COUNTING, value, False)
            more = rows[:k] + ((rows[k][0], rows[k][1] + (ONE,)),) + rows[k + 1:]
            self.check(COUNTING, ((more, ()), refutations), False)
            self.assertTrue(check_claims(COUNTING, prove(COUNTING, (more, ()))))
            wrong = rows[:k] + ((rows[k][0], [rows[k][1][0]]),) + rows[k + 1:]
            self.check(COUNTING, ((wrong, ()), refutations), False)
        self.check(COUNTING, ((rows[::-1], ()), refutations), False)
        self.check(COUNTING, ((list(rows), ()), refutations), False)
        self.check(COUNTING, ((rows, (("main", (ONE,)),)), refutations), False)
        self.check(GREATER, (found, refutations), False)

    def test_weaker_claims_that_do_not_carry_themselves(self):
        # What they say is true, but it does not follow from what they say.
        claims = (((("main", 1), (("less", V1, ("int", 12)),)),), ())
        self.assertIsNone(prove(COUNTING, claims))
        for refutation in (((),), ((1,), ()), ((1,), (-1,), ())):
            self.check(COUNTING, (claims, (refutation,) * len(obligations(COUNTING, claims))), False)

    def test_no_refutation_for_what_can_happen(self):
        program = read_program("width 2\nprocedure main 0\nblock 0\nv0 = take\nassert 1 v0\nreturn 1\n")
        for refutation in (((),), ((1,), ()), ((-1,), ()), ((1,), (-1,), ()), ((1, 2), ())):
            self.check(program, (((), ()), (refutation,)), False)
        self.assertIsNone(prove(program, ((), ())))

    def test_a_program_without_obligations(self):
        program = read_program("width 2\nprocedure main 0\nblock 0\nreturn 1\n")
        self.check(program, (((), ()), ()), True)
        self.assertEqual(prove(program, ((), ())), (((), ()), ()))
        self.check(program, (((), ()), (((),),)), False)
        self.check(program, (((), ()), []), False)

    def test_plain_values(self):
        found, refutations = prove(COUNTING, UP_TO_10)
        some = ODD_VALUES + (found, refutations, (found,), (refutations, found), [found, refutations], (found, list(refutations)),
                             (list(found), refutations), (found, refutations, ()), (found, None), (None, refutations), (found, 0),
                             (found, "x"), (found, (None,) * len(refutations)), (found, (0,) * len(refutations)),
                             (found, ("",) * len(refutations)), (found, True), (found, (True,) * len(refutations)))
        for value in some:
            self.check(COUNTING, value, False)


class KeptTest(unittest.TestCase):

    def test_a_claim_that_falls_because_another_one_fell(self):
        program = read_program("width 3\nprocedure main 0\nblock 0\nv0 = take\ngo 1\nblock 1\nv1 = v0\ngo 2\nblock 2\nv2 = v1\ngo 3\n"
                               "block 3\nreturn v2\n")
        small = [("less", ("var", v), ("int", 5)) for v in range(3)]
        rows = ((("main", 1), (small[0], ONE)), (("main", 2), (small[1], ("less", ("var", 2), ONE))), (("main", 3), (small[2],)))
        self.assertEqual(kept(program, (rows, ())), (((("main", 1), (ONE,)),), ()))
        # The same with the blocks in the other order.
        turned = (3, (), (("main", 0, program[2][0][2][:1] + program[2][0][2][:0:-1]),))
        self.assertEqual(kept(turned, (rows, ())), (((("main", 1), (ONE,)),), ()))
        # Where the word is small, all of them are kept.
        masked = read_program("width 3\nprocedure main 0\nblock 0\nv0 = take\nv0 = (v0 and 3)\ngo 1\nblock 1\nv1 = v0\ngo 2\n"
                              "block 2\nv2 = v1\ngo 3\nblock 3\nreturn v2\n")
        self.assertEqual(kept(masked, (rows, ())), ((rows[0], (("main", 2), (small[1],)), rows[2]), ()))

    def test_claims_that_keep_each_other(self):
        program = read_program("width 3\nprocedure main 0\nblock 0\nv0 = 1\nv1 = 2\ngo 1\nblock 1\nv2 = v0\nv0 = v1\nv1 = v2\ngo 1\n")
        first, second = ("less", V0, ("int", 5)), ("less", V1, ("int", 5))
        both = (((("main", 1), (first, second)),), ())
        self.assertEqual(kept(program, both), both)
        self.assertEqual(kept(program, (((("main", 1), (first,)),), ())), ((), ()))
        self.assertEqual(kept(program, (((("main", 1), (second,)),), ())), ((), ()))
        # Two blocks that lead to each other.
        program = read_program("width 3\nprocedure main 0\nblock 0\nv0 = take\nif v0 1 2\nblock 1\ngo 2\nblock 2\nif v0 1 3\nblock 3\n"
                               "return v1\n")
        claim = ("equal", V1, ZERO)
        both = (((("main", 1), (claim,)), (("main", 2), (claim,))), ())
        self.assertEqual(kept(program, both), both)
        self.assertEqual(kept(program, (both[0][:1], ())), ((), ()))
        self.assertEqual(kept(program, (both[0][1:], ())), ((), ()))

    def test_a_give_and_a_row_that_keep_each_other(self):
        program = read_program("width 3\nprocedure f 1\nblock 0\nif (v0 less 3) 1 2\nblock 1\nreturn 2\nblock 2\nv1 = f((v0 sub 3))\n"
                               "go 3\nblock 3\nreturn v1\nprocedure main 0\nblock 0\nv0 = take\nv0 = f(v0)\nreturn v0\n")
        row, give = (("f", 3), (("equal", V1, ("int", 2)),)), ("f", (("equal", GAVE, ("int", 2)),))
        self.assertEqual(kept(program, ((row,), (give,))), ((row,), (give,)))
        self.assertEqual(kept(program, ((row,), ())), ((), ()))
        self.assertEqual(kept(program, ((), (give,))), ((), ()))

    def test_claims_of_the_entry_of_main_and_of_procedures(self):
        program = read_program("width 2\nprocedure f 1\nblock 0\nreturn v0\nprocedure main 0\nblock 0\nv0 = f(1)\nv0 = f(2)\nreturn 1\n")
        claims = (((("f", 0), (V0, ("less", V0, ("int", 2)), ("equal", V1, ZERO), ("was", 0), V1)),
                   (("main", 0), (ZERO, ("equal", V0, ZERO), V0, ONE))), (("f", (GAVE, ("equal", GAVE, ONE))),))
        self.assertEqual(kept(program, claims), (((("f", 0), (V0, ("equal", V1, ZERO), ("was", 0))),
                                                  (("main", 0), (("equal", V0, ZERO), ONE))), (("f", (GAVE,)),)))

    def test_claims_that_nothing_leads_to(self):
        program = read_program("width 2\nprocedure f 0\nblock 0\nreturn 1\nprocedure main 0\nblock 0\nreturn 1\nblock 1\nassert 1 0\n"
                               "go 2\nblock 2\nreturn 1\n")
        claims = (((("f", 0), (ZERO,)), (("main", 1), (ZERO,)), (("main", 2), (ZERO,))), (("f", (ZERO,)),))
        self.assertEqual(kept(program, claims), claims)
        self.assertEqual(prove(program, claims)[0], claims)
        self.assertIsNone(prove(program, ((), ())))

    def test_assertions_do_not_count(self):
        program = read_program("width 2\nprocedure main 0\nblock 0\nv0 = take\nassert 1 v0\ngo 1\nblock 1\nreturn 1\n")
        claims = (((("main", 1), (V0,)),), ())
        self.assertEqual(kept(program, claims), claims)
        self.assertIsNone(prove(program, claims))

    def test_equal_claims(self):
        program = read_program("width 2\nprocedure main 0\nblock 0\ngo 1\nblock 1\nreturn 1\n")
        claims = (((("main", 1), (ONE, ZERO, ONE, ZERO, V0, ONE)),), ())
        self.assertEqual(kept(program, claims), (((("main", 1), (ONE, ONE, ONE)),), ()))

    def test_no_claims(self):
        for program in (COUNTING, GREATER):
            self.assertEqual(kept(program, ((), ())), ((), ()))
        self.assertIsNone(prove(COUNTING, ((), ())))
        self.assertIsNone(prove(GREATER, ((), ())))

    def test_more_claims_than_are_true(self):
        wrong = (("less", V1, ("int", 10)), ("less", ("int", 9), V1), ("equal", V1, ("int", 9)), V0)
        rows = tuple((about, wrong + values + wrong) for about, values in UP_TO_10[0])
        found = prove(COUNTING, (rows, ()))
        self.assertEqual(found[0], ((UP_TO_10[0][0], (("main", 2), (wrong[0],) + UP_TO_10[0][1][1] + (wrong[0],)),
                                     (("main", 3), (wrong[1],) + UP_TO_10[0][2][1] + (wrong[1],))), ()))
        self.assertTrue(check_claims(COUNTING, found))

    def test_against_the_greatest_part_by_trying(self):
        tried = fallen = stayed = proved = refused = 0
        for seed in range(1000, 1200):
            maker = ClaimMaker(seed, width=1 + seed % 2, blocks=3, body=2)
            program = maker.program()
            claims = maker.claims(program, share=0.4)
            if not 2 <= sum(len(values) for half in claims for _, values in half) <= 4:
                continue
            try:
                best, good = greatest_part(program, claims)
                asserts = any(bit for bit, goal in zip(all_happens(program, best), goals_of(program, best)) if goal is None)
            except TooMany:
                continue
            self.assertEqual(kept(program, claims), best, seed)
            # There is just one greatest: it has all that any other one has.
            for part in good:
                for half in (0, 1):
                    for about, values in part[half]:
                        self.assertTrue(set(values) <= set(dict(best[half])[about]))
            found = prove(program, claims)
            self.assertEqual(found is None, asserts, seed)
            if found is not None:
                self.assertEqual(found[0], best)
                self.assertIs(check_claims(program, found), True)
            tried += 1
            fallen += best != claims
            stayed += best != ((), ())
            proved += found is not None
            refused += found is None
        self.assertTrue(tried > 60 and min(fallen, stayed, proved, refused) > 15, (tried, fallen, stayed, proved, refused))


class BoundsTest(unittest.TestCase):

    def test_many_blocks(self):
        blocks = "".join(f"block {k}\nv1 = (v1 add 1)\nassert {k} (v1 less 30)\ngo {k + 1}\n" for k in range(1, 29))
        program = read_program("width 16\narray a 8\nprocedure main 0\nblock 0\nv0 = take\ngo 1\n" + blocks + "block 29\nreturn v1\n")
        self.assertEqual(program_faults(program), [])
        claims = (tuple((("main", k), (("less", V1, ("int", k)), ("less", V1, ("int", k - 1)), ("equal", V1, ("int", k - 1))))
                        for k in range(1, 30)), ())
        found = prove(program, claims)
        self.assertEqual(found[0], (tuple((about, (values[0], values[2])) for about, values in claims[0]), ()))
        self.assertTrue(check_claims(program, found))

    def test_no_function_is_open_more_than_100_times(self):
        found = prove(GREATER, GREATER_CLAIMS)
        self.assertLessEqual(deepest_calls(lambda: prove(GREATER, GREATER_CLAIMS)), 100)
        self.assertLessEqual(deepest_calls(lambda: check_claims(GREATER, found)), 100)

    def test_values_that_nest_deep(self):
        deep = ()
        for _ in range(20000):
            deep = (deep,)
        found, refutations = prove(COUNTING, UP_TO_10)
        for value in (deep, (deep, deep), (found, deep), (deep, refutations), (found, (deep,) * len(refutations)),
                      (((("main", 1), (deep,)),), ())):
            self.assertFalse(check_claims(COUNTING, value))

    def test_nothing_that_is_passed_in_is_changed(self):
        for seed in range(30):
            maker = ClaimMaker(seed)
            program = maker.program()
            claims = maker.claims(program)
            before = copy.deepcopy((program, claims))
            first = kept(program, claims)
            found = prove(program, claims)
            if found is not None:
                pair = copy.deepcopy(found)
                check_claims(program, found)
                self.assertEqual(found, pair)
                rows = [list(found[0]), list(found[1])]
                check_claims(program, rows)
                self.assertEqual(rows, [list(found[0]), list(found[1])])
            self.assertEqual((program, claims), before)
            self.assertEqual(kept(program, claims), first)


if __name__ == "__main__":
    unittest.main()
