"""The tests of obligations of inputways.claims: promise [11.2]."""

import copy
import unittest

from chance import ClaimMaker
from inputways.claims import are_claims, obligations
from inputways.programs import program_faults
from inputways.solver import solve
from inputways.text import read_program
from plain_clauses import is_clause
from plain_walks import TooMany, all_happens, keys_of
from samples import nested, nested_left
from watching import deepest_calls

ONE, ZERO, V0, V1 = ("int", 1), ("int", 0), ("var", 0), ("var", 1)
WAS, GAVE = ("was", 0), ("gave",)


def happens(program, claims):
    """For each obligation whether some filling keeps its clauses."""
    assert program_faults(program) == []
    assert are_claims(program, claims), claims
    found = obligations(program, claims)
    assert type(found) is tuple
    for clauses in found:
        assert type(clauses) is tuple and all(is_clause(clause) for clause in clauses)
    return [solve(clauses)[0] == "yes" for clauses in found]


def program_of(text, ahead="width 2\narray a 2\narray b 3\nprocedure f 1\nblock 0\nreturn v0\n"):
    return read_program(ahead + "procedure main 0\nblock 0\n" + text)


class OrderTest(unittest.TestCase):

    def check(self, program, claims, expected):
        """expected is a list of True and False, one for each obligation."""
        self.assertEqual(happens(program, claims), expected)
        self.assertEqual(all_happens(program, claims), expected)

    def test_no_claims(self):
        self.check(program_of("return 1\n"), ((), ()), [])
        self.check(program_of("v0 = f(1)\nput a[v0]\nif v0 1 2\nblock 1\nreturn v0\nblock 2\nreturn 1\n"), ((), ()), [])
        self.check(program_of("assert 1 1\nassert 2 0\nassert 3 0\nreturn 1\n"), ((), ()), [False, True, False])

    def test_claims_of_the_entry_of_main(self):
        program = program_of("return 1\n")
        self.check(program, (((("main", 0), (ONE, ZERO, V0, ("equal", V0, ("var", 39)))),), ()), [False, True, True, False])

    def test_blocks_stand_in_the_order_of_the_program(self):
        program = program_of("assert 1 1\ngo 2\nblock 2\nassert 2 0\ngo 1\nblock 1\nassert 3 v0\nreturn 1\n",
                             "width 2\nprocedure f 0\nblock 5\nassert 4 0\ngo 3\nblock 3\nassert 5 1\nreturn 1\n")
        self.check(program, ((), ()), [True, False, False, True, True])
        # First the claims about main's entry, then f's blocks; a claim about block 1 stands at the end of block 2.
        claims = (((("f", 3), (ONE, ZERO)), (("main", 0), (ZERO,)), (("main", 1), (V0,)), (("main", 2), (ZERO, ONE))),
                  (("f", (GAVE,)),))
        self.assertEqual(keys_of(program, claims), [
            ("first", 0), ("assert", "f", 5, 0), ("edge", "f", 5, 0, 0), ("edge", "f", 5, 0, 1), ("assert", "f", 3, 0),
            ("give", "f", 3, 0), ("assert", "main", 0, 0), ("edge", "main", 0, 0, 0), ("edge", "main", 0, 0, 1),
            ("assert", "main", 2, 0), ("edge", "main", 2, 0, 0), ("assert", "main", 1, 0)])
        self.check(program, claims, [True, True, False, False, False, False, False, False, False, False, False, False])

    def test_an_if_tells_its_first_label_first(self):
        text = "v0 = take\nif v0 2 1\nblock 1\nreturn 1\nblock 2\nreturn 1\n"
        self.check(program_of(text), (((("main", 1), (V0, ONE)), (("main", 2), (V0,))), ()), [False, True, False])
        self.check(program_of(text.replace("if v0 2 1", "if v0 1 2")), (((("main", 1), (V0, ONE)), (("main", 2), (V0,))), ()),
                   [False, False, True])

    def test_an_if_with_equal_labels(self):
        text = "v0 = take\nif v0 1 1\nblock 1\nreturn 1\n"
        self.check(program_of(text), (((("main", 1), (V0, ("equal", V0, ZERO), ZERO)),), ()),
                   [False, True, True, True, False, True])

    def test_returns(self):
        program = program_of("return 0\n", "width 2\nprocedure f 1\nblock 0\nif v0 1 2\nblock 1\nreturn v0\nblock 2\nreturn 3\n"
                             "procedure g 0\nblock 0\nreturn 0\n")
        self.check(program, ((), (("f", (GAVE, ("equal", GAVE, WAS))), ("g", (GAVE, ONE)))),
                   [True, True, False, True, True, False])
        # A claim about block 1 of f alone.
        self.check(program, (((("f", 1), (V0,)),), (("f", (GAVE,)),)), [False, False, False])

    def test_calls_and_assertions_stand_as_in_the_body(self):
        program = program_of("assert 1 1\nv0 = f(1)\nassert 2 0\nv0 = f(0)\nassert 3 1\nif 1 1 2\nblock 1\nreturn 1\nblock 2\n"
                             "return 1\n")
        claims = (((("f", 0), (ONE, V0, WAS)), (("main", 1), (ZERO,)), (("main", 2), (ZERO,))), ())
        self.assertEqual([key[0] for key in keys_of(program, claims)],
                         ["assert"] + ["call"] * 3 + ["assert"] + ["call"] * 3 + ["assert", "edge", "edge"])
        self.check(program, claims, [False] * 4 + [True] + [False] * 6)
        text = "v0 = f(1)\nv0 = f(0)\nv0 = f(2)\nreturn 1\n"
        self.check(program_of(text), claims[:0] + (((("f", 0), (("equal", V0, ONE), WAS)),), ()),
                   [False, False, True, True, True, False])


class BeginningTest(unittest.TestCase):

    def check(self, text, claims, expected, ahead="width 2\narray a 2\narray b 3\nprocedure f 1\nblock 0\nreturn v0\n"):
        program = program_of(text, ahead)
        self.assertEqual(happens(program, claims), expected)
        self.assertEqual(all_happens(program, claims), expected)

    def test_the_entry_of_main(self):
        self.check("assert 1 (v0 equal 0)\nassert 2 (v39 equal 0)\nassert 3 (a[1] equal 0)\nassert 4 (b[2] equal 0)\n"
                   "assert 5 v7\nreturn 1\n", ((), ()), [False, False, False, False, True])

    def test_other_blocks_begin_with_any_words(self):
        self.check("go 1\nblock 1\nassert 1 (v0 equal 0)\nassert 2 (v39 equal 0)\nassert 3 (a[1] equal 0)\nassert 4 (b[2] equal 0)\n"
                   "assert 5 (v0 equal v0)\nassert 6 (a[0] equal 1)\nassert 7 (a[1] equal 1)\nreturn 1\n",
                   ((), ()), [True, True, True, True, False, True, True])
        claims = (((("main", 1), (("equal", V0, ONE), V1)),), ())
        self.check("go 1\nblock 1\nassert 1 (v0 equal 1)\nassert 2 v1\nassert 3 (v1 equal 1)\nassert 4 v2\nreturn 1\n",
                   claims, [True, True, False, False, True, True])

    def test_the_entry_of_a_procedure(self):
        ahead = "width 2\narray a 1\nprocedure f 2\nblock 0\nassert 1 v0\nassert 2 (v1 equal v0)\nassert 3 (v2 equal 0)\n" \
                "assert 4 (v39 equal 0)\nassert 5 (a[0] equal 0)\nreturn v0\n"
        self.check("return 1\n", ((), ()), [True, True, False, False, True], ahead)
        claims = (((("f", 0), (("equal", V0, ("was", 1)), WAS)),), (("f", (("equal", GAVE, ("was", 1)),)),))
        self.check("return 1\n", claims, [False, False, False, False, True, False], ahead)

    def test_words_of_arguments_behind_the_entry(self):
        ahead = "width 2\nprocedure f 2\nblock 0\nv0 = (v0 add 1)\ngo 1\nblock 1\nassert 1 (v0 equal v1)\ngo 2\n" \
                "block 2\nreturn v0\n"
        was = ("equal", V0, ("add", WAS, ONE))
        self.check("return 1\n", (((("f", 1), (was,)),), (("f", (("equal", GAVE, ("add", WAS, ONE)),)),)),
                   [False, True, True], ahead)
        claims = (((("f", 1), (was,)), (("f", 2), (was,))), (("f", (("equal", GAVE, ("add", WAS, ONE)),)),))
        self.check("return 1\n", claims, [False, True, False, False], ahead)

    def test_claims_about_the_block_that_are_never_true(self):
        self.check("go 1\nblock 1\nassert 1 0\nreturn 1\n", (((("main", 1), (ZERO,)),), ()), [True, False])
        # Nothing leads to block 1.
        self.check("return 1\nblock 1\nassert 1 0\ngo 2\nblock 2\nreturn 1\n", (((("main", 1), (ZERO,)),), ()), [False])


class WayTest(unittest.TestCase):

    check = BeginningTest.check

    def test_takes_give_any_word(self):
        self.check("v0 = take\nassert 1 v0\nassert 2 v0\nv1 = take\nassert 3 (v0 equal v1)\nv0 = take\nassert 4 v0\nreturn 1\n",
                   ((), ()), [True, False, True, True])

    def test_nothing_happens_behind_a_broken_assertion(self):
        self.check("v0 = take\nassert 1 (v0 less 2)\nassert 2 (v0 less 2)\nassert 3 (v0 less 1)\nif v0 1 2\nblock 1\nreturn v0\n"
                   "block 2\nreturn v0\n", (((("main", 1), (ONE, ZERO)), (("main", 2), (V0,))), ()),
                   [True, False, True, False, False, True])

    def test_nothing_happens_behind_an_index_that_is_too_great(self):
        for line in ("put a[2]", "put a[3]", "v1 = (v0 add a[2])", "a[3] = v0", "assert 7 a[2]", "v2 = f(a[3])", "a[b[3]] = 1",
                     "a[0] = a[2]"):
            claims = (((("f", 0), (ZERO,)), (("main", 1), (ZERO,))), ())
            text = f"v0 = take\nassert 1 v0\n{line}\nassert 2 0\nput a[3]\nv1 = f(1)\nif v0 1 1\nblock 1\nreturn 1\n"
            program = program_of(text)
            expected = all_happens(program, claims)
            self.assertEqual(happens(program, claims), expected)
            self.assertEqual([key for key, bit in zip(keys_of(program, claims), expected) if bit], [("assert", "main", 0, 1)])
        # Nor behind one at the end.
        self.check("v0 = take\nif a[2] 1 1\nblock 1\nreturn 1\n", (((("main", 1), (ZERO,)),), ()), [False, False])
        self.check("v0 = 1\nreturn 1\n", ((), (("f", (ZERO,)),)), [False],
                   "width 2\narray a 2\nprocedure f 1\nblock 0\nreturn a[2]\n")

    def test_behind_an_index_it_is_below_the_size(self):
        self.check("v0 = take\nput a[v0]\nassert 1 (v0 less 2)\nassert 2 (v0 less 1)\nreturn 1\n", ((), ()), [False, True])
        self.check("v0 = take\na[v0] = 1\nassert 1 (v0 less 2)\nassert 2 a[v0]\nassert 3 a[0]\nreturn 1\n", ((), ()),
                   [False, False, True])

    def test_cells(self):
        self.check("a[1] = 3\nassert 1 (a[1] equal 3)\nassert 2 a[0]\nv0 = take\nv1 = take\nb[v0] = v1\nassert 3 (b[v0] equal v1)\n"
                   "assert 4 (b[0] or (v0 or (v1 equal 0)))\nreturn 1\n", ((), ()), [False, True, False, False])

    def test_behind_a_call(self):
        # The variable has any word, and so have all cells; others have kept theirs.
        text = "v0 = take\nv2 = 3\na[1] = 1\nv1 = f(v0)\nassert 1 (v1 equal v0)\nassert 2 v0\nassert 3 (v2 equal 3)\n" \
               "assert 4 (a[1] equal 1)\nassert 5 (b[0] equal 0)\nreturn 1\n"
        self.check(text, ((), ()), [True, True, False, True, True])
        claims = ((), (("f", (("equal", GAVE, WAS),)),))
        self.check(text, claims, [False, False, True, False, True, True])
        self.check("v0 = take\nv0 = f(v0)\nassert 1 v0\nassert 2 (v0 less 2)\nreturn 1\n", ((), (("f", (("less", GAVE, ("int", 2)),)),)),
                   [True, True, False])

    def test_gives_of_which_none_is_true(self):
        self.check("v0 = f(1)\nassert 1 0\nv0 = f(1)\nreturn 1\n", ((), (("f", (("less", GAVE, WAS), ("less", WAS, GAVE))),)),
                   [True, True, False])

    def test_claims_about_the_entry_at_a_call(self):
        # The params and the words of the arguments; all other variables are 0.
        ahead = "width 2\nprocedure f 2\nblock 4\nreturn v0\n"
        claims = (((("f", 4), (("equal", V0, WAS), ("equal", V1, ("was", 1)), ("less", V0, V1), ("equal", ("var", 2), ZERO),
                               ("var", 2), ("less", ("var", 1), ("int", 3)))),), ())
        self.check("v2 = 1\nv0 = f(1, 2)\nreturn 1\n", claims, [False, False, False, False, True, False], ahead)
        self.check("v0 = take\nv2 = 3\nv0 = f(v0, v2)\nreturn 1\n", claims, [False, False, True, False, True, True], ahead)

    def test_a_call_that_may_be_too_deep_goes_on(self):
        ahead = "width 2\nprocedure f 1\nblock 0\nv1 = f(v0)\nassert 1 0\nreturn v1\n"
        self.check("v0 = f(1)\nassert 2 0\nreturn 1\n", ((), ()), [True, True], ahead)
        self.check("v0 = f(1)\nassert 2 0\nreturn 1\n", ((), (("f", (ZERO,)),)), [False, False, False], ahead)


class ChanceTest(unittest.TestCase):

    def test_programs_and_claims_by_chance(self):
        many = yes = 0
        for seed in range(220):
            maker = ClaimMaker(seed, width=1 + seed % 2)
            program = maker.program()
            claims = maker.claims(program)
            try:
                expected = all_happens(program, claims)
            except TooMany:
                continue
            self.assertEqual(happens(program, claims), expected, seed)
            many += len(expected)
            yes += sum(expected)
        self.assertGreater(many, 1000)
        self.assertGreater(yes, 300)
        self.assertGreater(many - yes, 300)


class BoundsTest(unittest.TestCase):

    def test_deep_expressions(self):
        deep = nested(20, V0)
        program = program_of("v0 = take\nput 1\ngo 1\nblock 1\nreturn 1\n")
        claims = (((("main", 1), (deep, nested_left(20), nested(20, ("int", 0)))),), (("f", (nested(20, GAVE), nested(19, WAS))),))
        self.assertEqual(len(happens(program, claims)), 5)
        self.assertLessEqual(deepest_calls(lambda: obligations(program, claims)), 100)

    def test_many_blocks_and_statements(self):
        blocks = "".join(f"block {k}\n" + "v1 = (v1 add v0)\nassert 1 (v1 or (v1 equal 0))\n" * 20 + f"if v1 {k + 1} 29\n"
                         for k in range(1, 29))
        program = read_program("width 16\narray a 8\narray b 8\narray c 8\narray d 8\nprocedure main 0\nblock 0\nv0 = take\ngo 1\n"
                               + blocks + "block 29\nreturn v1\n")
        self.assertEqual(program_faults(program), [])
        claims = (tuple((("main", k), (("equal", V0, V0), V1)) for k in range(2, 29)), ())
        found = obligations(program, claims)
        self.assertEqual(len(found), 28 * 20 + 2 * 27)
        for clauses in found[:45] + found[-5:]:
            self.assertIn(solve(clauses)[0], ("yes", "no"))

    def test_nothing_that_is_passed_in_is_changed(self):
        for seed in range(20):
            maker = ClaimMaker(seed)
            program = maker.program()
            claims = maker.claims(program)
            kept = copy.deepcopy((program, claims))
            first = obligations(program, claims)
            self.assertEqual((program, claims), kept)
            self.assertEqual(obligations(program, claims), first)


if __name__ == "__main__":
    unittest.main()
