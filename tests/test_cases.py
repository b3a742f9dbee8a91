"""The tests of inputways.cases: the answers of a search that goes through the parts of a literal."""

import itertools
import random
import unittest

from inputways.bitwords import added, computed, constant, equal_word
from inputways.cases import CaseSearch, solve_any
from inputways.pool import NO, YES, Pool
from inputways.refuter import refutes
from plain_clauses import is_clause
from test_pool import NAMES, Circuits
from watching import deepest_calls


def word_of(pool, k, width):
    return [pool.bit((k, j)) for j in range(width)]


class AnyTest(unittest.TestCase):

    def check(self, pool, parts, is_met):
        """Look at the answer for some parts; is_met tells whether some bits make one of them 1."""
        literal = pool.any_of(parts)
        answer, found = solve_any(pool, literal, parts)
        self.assertEqual(answer, "yes" if is_met else "no")
        if is_met:
            self.assertEqual(set(found.values()) - {1}, set())
            self.assertEqual(pool.value(literal, found), 1)
        else:
            self.assertTrue(all(is_clause(row) for row in found))
            self.assertTrue(refutes(pool.clauses(literal)[0], found))
        return answer

    def test_constants(self):
        pool = Pool()
        a = pool.bit(("a",))
        self.check(pool, [], False)
        self.check(pool, [NO, NO], False)
        self.check(pool, [YES], True)
        self.check(pool, [NO, a, a ^ 1], True)
        self.check(pool, [a], True)
        self.check(pool, [a ^ 1, NO], True)

    def test_circuits_by_chance(self):
        answers = []
        for seed in range(150):
            circuits = Circuits(seed, 60)
            chance = random.Random(seed)
            for many in (1, 2, 3, 6, 10):
                some = chance.sample(circuits.made, many)
                if seed % 2 == 0:
                    # Parts that are never 1 are not seen to be so at once.
                    some = [(circuits.pool.both(x, y ^ 1 if f == g else y), None) for (x, f), (y, g) in zip(some, some[1:] + some[:1])]
                parts = [x for x, _ in some]
                literal = circuits.pool.any_of(parts)
                is_met = any(circuits.pool.value(literal, row) == 1 for row in circuits.rows)
                answers.append(self.check(circuits.pool, parts, is_met))
        self.assertGreater(answers.count("yes"), 200)
        self.assertGreater(answers.count("no"), 30)

    def test_parts_of_which_none_is_ever_1(self):
        # The sum of two words, made in two ways, and the ways in which they would differ.
        for width in (1, 2, 4, 6):
            pool = Pool()
            x, y = word_of(pool, 0, width), word_of(pool, 1, width)
            total = added(pool, x, y, NO)
            other = computed(pool, "sub", x, computed(pool, "sub", constant(pool, 0, width), y))
            parts = [pool.unlike(a, b) for a, b in zip(total, other)]
            for some in (parts, parts[::-1], parts + parts, parts[-1:], parts[:1]):
                self.check(pool, some, False)
            self.check(pool, parts + [pool.both(x[0], y[-1])], True)
            self.check(pool, [pool.both(parts[-1], y[-1])] + parts + [equal_word(pool, total, constant(pool, 1, width))], True)

    def test_later_parts_are_not_looked_at_where_an_early_one_can_be_1(self):
        pool = Pool()
        x, y = word_of(pool, 0, 8), word_of(pool, 1, 8)
        product = computed(pool, "mul", x, y)
        parts = [pool.both(pool.unlike(x[0], y[0]), pool.both(x[0], y[0])), pool.both(x[0], pool.both(y[0], x[1]) ^ 1),
                 equal_word(pool, product, x)]
        search = CaseSearch(pool, pool.any_of(parts), parts)
        answer, found = search.answer()
        self.assertEqual((answer, search.begun), ("yes", 2))
        self.assertLess(sum(search.entered), 20)
        self.assertGreater(len(search.entered), 100)
        self.check(pool, parts, True)

    def test_parts_that_are_not_those_of_the_literal(self):
        # Where parts are left out, the rest is looked at last.
        for seed in range(60):
            circuits = Circuits(seed, 40)
            parts = [x for x, _ in circuits.made[-4:]]
            literal = circuits.pool.any_of(parts)
            is_met = any(circuits.pool.value(literal, row) == 1 for row in circuits.rows)
            for some in ([], parts[:1], parts[1:3]):
                answer, found = solve_any(circuits.pool, literal, some)
                self.assertEqual(answer, "yes" if is_met else "no")
                if is_met:
                    self.assertEqual(circuits.pool.value(literal, found), 1)
                else:
                    self.assertTrue(refutes(circuits.pool.clauses(literal)[0], found))


class BitsTest(unittest.TestCase):

    def test_the_least_bits(self):
        # Each name is 0 if it can be, those that stand first ahead of the others.
        for seed in range(120):
            circuits = Circuits(seed, 50)
            parts = [x for x, _ in circuits.made[-1 - seed % 4:]]
            literal = circuits.pool.any_of(parts)
            rows = [tuple(row[name] for name in NAMES) for row in circuits.rows if circuits.pool.value(literal, row) == 1]
            if literal in (NO, YES) or not rows:
                continue
            search = CaseSearch(circuits.pool, literal, parts)
            answer, found = search.answer()
            self.assertEqual(answer, "yes")
            row = search.true_names(found)
            for name in NAMES:
                if name in row:
                    less = search.try_no(name)
                    self.assertTrue(less is None or name not in less)
                    row = row if less is None else less
                search.fix(name, row.get(name, 0))
            self.assertEqual(tuple(row.get(name, 0) for name in NAMES), min(rows))

    def test_bits_that_are_tried_again_and_again(self):
        for seed in range(60):
            circuits = Circuits(seed, 50)
            parts = [x for x, _ in circuits.made[-3:]]
            literal = circuits.pool.any_of(parts)
            rows = [row for row in circuits.rows if circuits.pool.value(literal, row) == 1]
            if literal in (NO, YES) or not rows:
                continue
            search = CaseSearch(circuits.pool, literal, parts)
            known = {}
            for name in NAMES:
                for other in NAMES[::-1] + NAMES:
                    if other in search.names:
                        found = search.try_no(other)
                        good = [row for row in rows if row[other] == 0 and all(row[n] == known[n] for n in known)]
                        self.assertEqual(found is not None, len(good) > 0)
                        if found is not None:
                            bits = {n: found.get(n, 0) for n in NAMES}
                            self.assertEqual(circuits.pool.value(literal, bits), 1)
                            self.assertEqual([bits[n] for n in known if n in search.names],
                                             [known[n] for n in known if n in search.names])
                known[name] = [row for row in rows if all(row[n] == known[n] for n in known)][0][name]
                search.fix(name, known[name])

    def test_no_function_is_open_more_than_100_times(self):
        pool = Pool()
        x, y = word_of(pool, 0, 8), word_of(pool, 1, 8)
        first, second = computed(pool, "mul", x, y), computed(pool, "mul", y, computed(pool, "add", x, constant(pool, 0, 8)))
        parts = [pool.unlike(a, b) for a, b in itertools.product(first, second)]
        self.assertLessEqual(deepest_calls(lambda: solve_any(pool, pool.any_of(parts), parts)), 100)


if __name__ == "__main__":
    unittest.main()
