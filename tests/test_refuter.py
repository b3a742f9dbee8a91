"""The tests of inputways.refuter: promises [7.1] and [7.2], and of [0.2] and [0.3] what concerns them."""

import copy
import itertools
import random
import unittest

import plain_clauses
from inputways.refuter import follows, is_clause, refutes
from plain_clauses import all_fillings, keeps, variables_of
from watching import deepest_calls


def some_clause(chance, variables, length):
    """A clause by chance, over some of the variables."""
    picked = sorted(chance.sample(variables, min(length, len(variables))))
    return tuple(chance.choice((v, -v)) for v in picked)


def some_clauses(chance, variables, many, lengths=(1, 2, 2, 3, 3, 3)):
    return [some_clause(chance, variables, chance.choice(lengths)) for _ in range(many)]


# At least one of 1 and 2 has a sign by which all four are kept by none; no clause stands by itself.
SQUARE = ((1, 2), (1, -2), (-1, 2), (-1, -2))
CHAIN = ((1,), (-1, 2), (-2, 3), (-3, 4), (-4, -5, 6))


class ClauseTest(unittest.TestCase):

    def test_clauses(self):
        for value in ((), (1,), (-1,), (1, 2), (-1, 2), (1, -2), (-3, 7, -100), (10 ** 30,), (5, -10 ** 30), tuple(range(1, 300))):
            self.assertIs(is_clause(value), True, value)

    def test_values_that_are_none(self):
        values = (
            None, True, False, 0, 1, -1, "", "x", [], [1], [1, 2], (0,), (0, 1), (1, 0), (-1, 0, 2), (True,), (False,),
            (1, True), (True, 2), (1, 1), (1, -1), (-1, 1), (2, 1), (-2, 1), (2, -1), (-2, -1), (1, 3, 2), (1, 2, 2),
            (1, 2, -2), ("1",), (None,), ((1,),), ([1],), (1, "2"), (1, None), ((), ), (1, (2,)),
        )
        for value in values:
            self.assertIs(is_clause(value), False, value)

    def test_against_the_definition(self):
        items = (0, 1, -1, 2, -2, 3, True, False, None, "1")
        for length in range(4):
            for value in itertools.product(items, repeat=length):
                self.assertEqual(is_clause(value), plain_clauses.is_clause(value), value)


class FollowsTest(unittest.TestCase):

    def check(self, clauses, clause, expected):
        self.assertIs(follows(clauses, clause), expected, (clauses, clause))
        self.assertIs(follows(list(clauses), clause), expected)

    def test_clauses_that_follow(self):
        rows = (
            (((),), ()), (((),), (5,)), (((1,), (-1,)), ()), (((1,), (-1,)), (2, 3)), (((1,),), (1,)), (((1,),), (1, 2)),
            (((1,),), (1, -2, 3)), (((1, 2),), (1, 2)), (((1, 2),), (1, 2, 3)), (((1, 2), (-2,)), (1,)),
            (CHAIN, (4,)), (CHAIN, (-5, 6)), (CHAIN, (2, 9)), (CHAIN, (-4, -5, 6)), (SQUARE, (1,)), (SQUARE, (-2,)),
            (SQUARE, (2, 7)), (CHAIN + ((-4,),), ()), (((1, 2, 3), (1, 2, -3)), (1, 2)),
        )
        for clauses, clause in rows:
            self.check(clauses, clause, True)

    def test_clauses_that_do_not_follow(self):
        rows = (
            ((), ()), ((), (1,)), (((1,),), ()), (((1,),), (-1,)), (((1,),), (2,)), (((1, 2),), (1,)), (((1, 2),), ()),
            (CHAIN, ()), (CHAIN, (-4,)), (CHAIN, (6,)), (CHAIN, (-5,)), (CHAIN, (5, 6)), (CHAIN, (7,)), (((1, 2, 3),), (1, 2)),
            # It is kept by each filling that keeps the clauses, which is none, but it does not follow by units.
            (SQUARE, ()), (SQUARE, (7,)), (((1, 2, 3), (1, 2, -3), (1, -2, 3), (1, -2, -3)), (1,)),
        )
        for clauses, clause in rows:
            self.check(clauses, clause, False)

    def test_whatever_the_order(self):
        for clauses, clause, expected in ((CHAIN, (-5, 6), True), (CHAIN, (5, 6), False), (SQUARE, (1,), True)):
            for order in itertools.permutations(clauses):
                self.check(order, clause, expected)

    def test_a_clause_that_stands_twice(self):
        self.check(CHAIN + CHAIN, (-5, 6), True)
        self.check(CHAIN + CHAIN, (6,), False)

    def test_variables_that_the_clauses_do_not_have(self):
        self.check(CHAIN, (4, 100), True)
        self.check(CHAIN, (100,), False)
        self.check(CHAIN, (-100, 10 ** 20), False)
        self.check(((10 ** 20,),), (10 ** 20,), True)
        self.check((), (3,), False)

    def test_against_the_definition(self):
        chance = random.Random(7)
        found = {True: 0, False: 0}
        for _ in range(4000):
            variables = sorted(chance.sample(range(1, 30), chance.randint(1, 7)))
            clauses = some_clauses(chance, variables, chance.randint(0, 14), (0, 1, 2, 2, 3, 3, 4) if chance.random() < 0.1
                                   else (2, 2, 3, 3, 4))
            clause = some_clause(chance, variables + [40, 50], chance.randint(0, 3))
            expected = plain_clauses.follows(clauses, clause)
            self.check(tuple(clauses), clause, expected)
            found[expected] += 1
            if expected:
                names = variables_of(list(clauses) + [clause])
                self.assertTrue(all(keeps(f, [clause]) for f in all_fillings(names) if keeps(f, clauses)))
        self.assertGreater(min(found.values()), 500)

    def test_long_chains(self):
        many = 30000
        chain = [(-k, k + 1) for k in range(1, many)]
        for clauses in (chain, chain[::-1]):
            self.assertTrue(follows(clauses, (-1, many)))
            self.assertFalse(follows(clauses, (1, many)))
            self.assertTrue(follows(clauses + [(1,), (-many,)], ()))

    def test_long_clauses(self):
        row = tuple(range(1, 3000))
        units = [(-v,) for v in range(1, 2999)]
        self.assertTrue(follows([row] + units, (2999,)))
        self.assertTrue(follows(units + [row], (2999,)))
        self.assertFalse(follows([row] + units[1:], (2999,)))
        self.assertTrue(follows([row] + units[1:], (1, 2999)))


class RefutesTest(unittest.TestCase):

    def check(self, clauses, value, expected):
        self.assertIs(refutes(clauses, value), expected, (clauses, value))
        self.assertIs(refutes(list(clauses), value), expected)

    def test_right_refutations(self):
        rows = (
            (((),), ((),)), (((),), ((1,), (-1, 5), ())), (((1,), (-1,)), ((),)), (SQUARE, ((1,), ())), (SQUARE, ((-2,), ())),
            (SQUARE, ((1, 7), (1,), ())), (SQUARE, ((1,), (), (), ())), (SQUARE, ((1,), (), (5,), ())),
            (CHAIN + ((-4,),), ((),)), (CHAIN + ((5,), (-6,)), ((-5, 6), ())),
            (((1, 2, 3), (1, 2, -3), (1, -2, 3), (1, -2, -3), (-1,)), ((1, 2), (2,), ())),
            (((1, 2, 3), (1, 2, -3), (1, -2, 3), (1, -2, -3), (-1,)), ((2,), ())),
        )
        for clauses, value in rows:
            self.check(clauses, value, True)

    def test_values_that_are_no_refutation(self):
        values = (
            None, True, False, 0, 1, "", "x", (), [], [()], [[]], ((1,),), ((1,), (2,)), ((), (1,)), ((1,), [], ()), ((1,), []),
            ([1], ()), ((1,), (0,), ()), ((1,), (True,), ()), ((True,), ()), ((2, 1), ()), ((1, 1), ()), ((1, -1), ()),
            ((1,), None), ((1,), 0), ((1,), "", ()), (1, ()), ((1,), ((),)), (((),),), ("", ()), ((1,), False), [(1,), ()],
            ((1,), ("x",), ()), ((1,), (None,), ()),
        )
        for value in values:
            self.check(SQUARE, value, False)
        self.check(SQUARE, ((1,), ()), True)
        for value in values:
            self.check(((),), value, plain_clauses.refutes(((),), value))

    def test_rows_that_do_not_follow(self):
        for value in (((),), ((3,), ()), ((1, 3), ()), ((3,), (1,), ()), ((1, 3), (3,), ()), ((1, 3), (), (1,), ())):
            self.check(SQUARE, value, False)
        self.check((), ((),), False)
        self.check(((1,),), ((),), False)
        self.check(((1,),), ((1,), ()), False)
        self.check(((1, 2),), ((1,), (-1,), ()), False)

    def test_a_row_left_out_changed_or_exchanged(self):
        clauses = tuple((a, b * 2, c * 3, d * 4) for a, b, c, d in itertools.product((1, -1), repeat=4))
        right = tuple(row for row in [(a, b * 2, c * 3) for a, b, c in itertools.product((1, -1), repeat=3)]
                      + [(a, b * 2) for a, b in itertools.product((1, -1), repeat=2)] + [(1,), ()])
        self.check(clauses, right, True)
        refused = 0
        for k in range(len(right)):
            changed = [right[:k] + right[k + 1:], right[:k] + ((9,),) + right[k:], right[:k] + ((-1, 9),) + right[k + 1:]]
            changed += [right[:k] + right[k + 1:m] + right[k:k + 1] + right[m:] for m in range(k + 2, len(right))]
            changed += [right[:k] + (right[k][1:],) + right[k + 1:], right[:k] + (right[k][:-1],) + right[k + 1:]]
            for value in changed:
                expected = plain_clauses.refutes(clauses, value)
                self.check(clauses, value, expected)
                refused += not expected
        self.assertGreater(refused, 30)

    def test_against_the_definition(self):
        chance = random.Random(3)
        found = {True: 0, False: 0}
        for _ in range(3000):
            variables = sorted(chance.sample(range(1, 12), chance.randint(1, 4)))
            clauses = some_clauses(chance, variables, chance.randint(2, 18), (1, 2, 2, 2, 3))
            rows = [some_clause(chance, variables + [40], chance.choice((1, 1, 2, 3))) for _ in range(chance.randint(0, 4))]
            value = tuple(rows) + ((),)
            expected = plain_clauses.refutes(clauses, value)
            self.check(tuple(clauses), value, expected)
            found[expected] += 1
            if expected:
                self.assertFalse(any(keeps(filling, clauses) for filling in all_fillings(variables)))
        self.assertGreater(min(found.values()), 300)

    def test_long_refutations(self):
        # Each row needs the one ahead of it: of the variable behind it nothing stands by itself.
        many = 4000
        clauses = [(1,)]
        for k in range(1, many):
            clauses += [(-k, k + 1, many + k), (-k, k + 1, -many - k)]
        clauses += [(-many, 2 * many), (-many, -2 * many)]
        rows = tuple((k,) for k in range(2, many + 1)) + ((),)
        self.assertTrue(refutes(clauses, rows))
        self.assertTrue(refutes(clauses[::-1], rows))
        self.assertFalse(refutes(clauses[1:], rows))
        self.assertFalse(refutes(clauses[:-1], rows))
        self.assertFalse(refutes(clauses, rows[1:]))
        self.assertFalse(refutes(clauses, rows[:2000] + rows[2001:]))
        self.assertFalse(refutes(clauses, rows[:2000] + (rows[2001], rows[2000]) + rows[2002:]))

    def test_very_many_clauses(self):
        many = 200000
        clauses = [(k, k + 1, k + 2) for k in range(1, many - 1)] + [(-many, 1), (-1, many)]
        self.assertFalse(refutes(clauses, ((),)))
        self.assertTrue(refutes(clauses + [(-1,), (-2,), (-3,)], ((),)))


class EverythingTest(unittest.TestCase):

    def test_nothing_that_is_passed_in_is_changed(self):
        clauses, value = [list(SQUARE), list(CHAIN)], [(1,), ()]
        kept = copy.deepcopy((clauses, value))
        for rows in clauses:
            follows(rows, (1,))
            refutes(rows, tuple(value))
            refutes(rows, value)
        self.assertEqual((clauses, value), kept)

    def test_no_function_is_open_more_than_100_times(self):
        many = 2000
        chain = [(-k, k + 1) for k in range(1, many)]
        self.assertLessEqual(deepest_calls(lambda: follows(chain, (-1, many))), 100)
        rows = tuple((k,) for k in range(2, many)) + ((),)
        self.assertLessEqual(deepest_calls(lambda: refutes(chain + [(1,), (-many,)], rows)), 100)
        deep = ()
        for _ in range(3000):
            deep = (deep,)
        self.assertLessEqual(deepest_calls(lambda: refutes(chain, deep)), 100)
        self.assertLessEqual(deepest_calls(lambda: is_clause(deep)), 100)
        self.assertFalse(is_clause(deep))


if __name__ == "__main__":
    unittest.main()
