"""The tests of inputways.solver: promise [7.3], and of [0.2] and [0.3] what concerns it."""

import copy
import itertools
import random
import unittest

import plain_clauses
from inputways.bitwords import computed, constant, equal_word, less_word
from inputways.pool import Pool
from inputways.refuter import refutes
from inputways.solver import solve
from plain_clauses import all_fillings, is_filling, keeps, variables_of
from test_refuter import some_clauses
from watching import deepest_calls


def holes(things, many):
    """Clauses that so many things are in so many holes, no two in one."""
    place = {(i, j): i * many + j + 1 for i in range(things) for j in range(many)}
    clauses = [tuple(place[i, j] for j in range(many)) for i in range(things)]
    for j in range(many):
        clauses += [(-place[a, j], -place[b, j]) for a, b in itertools.combinations(range(things), 2)]
    return clauses


def unlike_row(many, closes):
    """Clauses that each of so many bits is unlike the one ahead of it, and the last one unlike the first one or not."""
    clauses = []
    for k in range(1, many):
        clauses += [(k, k + 1), (-k, -k - 1)]
    last_is_unlike = many % 2 == 0
    return clauses + ([(1, many), (-1, -many)] if last_is_unlike == closes else [(1, -many), (-1, many)])


def word(pool, name, w):
    return [pool.bit((name, k)) for k in range(w)]


class SolveTest(unittest.TestCase):

    def check(self, clauses, expected=None, plain=False):
        """Solve clauses and look at the answer; return its first word."""
        answer, found = solve(clauses)
        self.assertIn(answer, ("yes", "no"))
        if answer == "yes":
            self.assertTrue(is_filling(found, variables_of(clauses)), found)
            items = set(found)
            self.assertTrue(all(any(x in items for x in clause) for clause in clauses))
        else:
            self.assertIs(type(found), tuple)
            self.assertTrue(refutes(clauses, found))
            if plain:
                self.assertTrue(plain_clauses.refutes(clauses, found))
        if expected is not None:
            self.assertEqual(answer, expected)
        return answer

    def test_no_clauses(self):
        self.assertEqual(solve(()), ("yes", ()))
        self.assertEqual(solve([]), ("yes", ()))

    def test_an_empty_clause(self):
        for clauses in (((),), ((), ()), ((1,), ()), ((), (1, 2)), ((1, 2), (), (-1,))):
            self.check(clauses, "no", plain=True)
            self.check(list(clauses), "no", plain=True)

    def test_the_same_clause_twice(self):
        self.check([(1, 2)] * 3, "yes")
        self.check([(1,)] * 3, "yes")
        self.check([(1,), (-1,), (1,), (-1,)], "no", plain=True)
        self.check([(1, 2), (1, -2), (-1, 2), (-1, -2)] * 2, "no", plain=True)

    def test_the_filling_is_forced(self):
        self.assertEqual(solve(((1,), (-2,), (-1, 2, -7))), ("yes", (1, -2, -7)))
        self.assertEqual(solve([(-1, 2), (1,), (-2, 3), (-3, -4)]), ("yes", (1, 2, 3, -4)))

    def test_numbers_of_variables_with_gaps(self):
        self.assertEqual(solve(((5,), (-100,), (100, 10 ** 20))), ("yes", (5, -100, 10 ** 20)))
        clauses = [tuple(x * 1000003 for x in clause) for clause in holes(4, 3)]
        self.check(clauses, "no", plain=True)
        self.check([(7, 900), (-7, -900)], "yes")

    def test_lists_and_tuples_of_clauses(self):
        for clauses in (holes(3, 2), holes(3, 3)):
            self.assertEqual(self.check(list(clauses)), self.check(tuple(clauses)))

    def test_small_sets_against_all_fillings(self):
        chance = random.Random(1)
        found = {"yes": 0, "no": 0}
        for _ in range(4000):
            variables = sorted(chance.sample(range(1, 60), chance.randint(1, 7)))
            lengths = chance.choice(((1, 2, 3), (2, 2, 3), (3, 3, 4), (2, 3, 3, 3), (0, 1, 2, 5)))
            clauses = some_clauses(chance, variables, chance.randint(0, 6 * len(variables)), lengths)
            some = any(keeps(filling, clauses) for filling in all_fillings(variables_of(clauses)))
            found[self.check(clauses, "yes" if some else "no", plain=True)] += 1
        self.assertGreater(min(found.values()), 800)

    def test_all_sets_of_clauses_of_two_variables(self):
        rows = [(), (1,), (-1,), (2,), (-2,), (1, 2), (1, -2), (-1, 2), (-1, -2)]
        for k in range(2 ** len(rows)):
            clauses = [row for j, row in enumerate(rows) if k >> j & 1]
            some = any(keeps(filling, clauses) for filling in all_fillings(variables_of(clauses)))
            self.check(clauses, "yes" if some else "no", plain=True)

    def test_things_in_holes(self):
        for many in range(1, 7):
            self.check(holes(many, many), "yes")
            self.check(holes(many + 1, many), "no", plain=many < 4)
            self.check(holes(many + 3, many + 3), "yes")

    def test_rows_of_unlike_bits(self):
        for many in (2, 3, 4, 5, 100, 101, 5000, 20001):
            self.check(unlike_row(many, True), "yes")
            self.check(unlike_row(many, False), "no", plain=many < 10)

    def test_middling_sets_by_chance(self):
        chance = random.Random(8)
        found = {"yes": 0, "no": 0}
        for count in (30, 60, 90, 120):
            for _ in range(8):
                clauses = some_clauses(chance, list(range(1, count + 1)), count * 426 // 100, (3,))
                found[self.check(clauses)] += 1
        self.assertGreater(min(found.values()), 5)

    def test_enough_learnt_clauses_that_some_are_dropped(self):
        chance = random.Random(4)
        clauses = some_clauses(chance, list(range(1, 161)), 720, (3,))
        answer, found = solve(clauses)
        self.assertEqual(answer, "no")
        self.assertGreater(len(found), 3000)
        self.assertTrue(refutes(clauses, found))

    def test_circuits(self):
        pool = Pool()
        w = 16
        x, y, one = word(pool, "x", w), word(pool, "y", w), constant(pool, 1, w)
        product = equal_word(pool, computed(pool, "mul", x, y), constant(pool, 12345, w))
        literal = pool.both(product, pool.both(less_word(pool, one, x), less_word(pool, one, y)))
        clauses, names = pool.clauses(literal)
        answer, found = solve(clauses)
        self.assertEqual(answer, "yes")
        bits = {name: int(v in found) for name, v in names}
        self.assertEqual(pool.value(literal, bits), 1)
        for op, width in (("add", 16), ("mul", 5), ("or", 16)):
            pool = Pool()
            x, y = word(pool, "x", width), word(pool, "y", width)
            differs = equal_word(pool, computed(pool, op, x, y), computed(pool, op, y, x)) ^ 1
            self.check(pool.clauses(differs)[0], "no")

    def test_very_many_clauses(self):
        many = 70000
        clauses = []
        for k in range(1, many):
            clauses += [(-k, k + 1), (k, k + 1, k + 2), (-k, -k - 1, k + 3)]
        self.check(clauses, "yes")
        self.check(clauses + [(1,), (-many,)], "no")
        self.check(clauses + [(1, many + 5), (-many, many + 5), (1, -many - 5), (-many, -many - 5)], "no")

    def test_the_same_answer_each_time(self):
        for clauses in (holes(5, 5), holes(5, 4), unlike_row(50, True)):
            self.assertEqual(solve(clauses), solve(copy.deepcopy(clauses)))

    def test_nothing_that_is_passed_in_is_changed(self):
        for clauses in (holes(5, 5), holes(5, 4), [(1,), (-1, 2)], [()]):
            kept = copy.deepcopy(clauses)
            solve(clauses)
            self.assertEqual(clauses, kept)

    def test_no_function_is_open_more_than_100_times(self):
        chance = random.Random(2)
        for clauses in (unlike_row(3000, False), unlike_row(3000, True), holes(6, 5),
                        some_clauses(chance, list(range(1, 61)), 256, (3,)), [(-k, k + 1) for k in range(1, 4000)]):
            self.assertLessEqual(deepest_calls(lambda: solve(clauses)), 100)


if __name__ == "__main__":
    unittest.main()
