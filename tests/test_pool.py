"""The tests of inputways.pool: promises [5.1], [5.2] and [5.4], and of [0.2] and [0.3] what concerns them."""

import itertools
import random
import unittest

from inputways.pool import NO, YES, Pool
from plain_clauses import all_fillings, follows, is_clause, keeps, some_filling, variables_of

NAMES = (("a",), ("b", 0), (1, "c"), (2, 3))


def rows_of(names):
    """Each dict from names to bits."""
    return [dict(zip(names, row)) for row in itertools.product((0, 1), repeat=len(names))]


class Circuits:
    """Literals of a pool, each with what its bit should be for all rows of bits of the names."""

    def __init__(self, seed, many, names=NAMES):
        self.random = random.Random(seed)
        self.pool = Pool()
        self.names = names
        self.rows = rows_of(names)
        self.made = [(NO, [0] * len(self.rows)), (YES, [1] * len(self.rows))]
        self.made += [(self.pool.bit(name), [row[name] for row in self.rows]) for name in names]
        for _ in range(many):
            self.made.append(self.next())

    def next(self):
        (x, f), (y, g), (z, h) = (self.random.choice(self.made) for _ in range(3))
        kind = self.random.randrange(5)
        if kind == 0:
            return self.pool.both(x, y), [int(a + b == 2) for a, b in zip(f, g)]
        if kind == 1:
            return self.pool.either(x, y), [int(a + b > 0) for a, b in zip(f, g)]
        if kind == 2:
            return self.pool.unlike(x, y), [int(a + b == 1) for a, b in zip(f, g)]
        if kind == 3:
            return self.pool.chosen(x, y, z), [b if a else c for a, b, c in zip(f, g, h)]
        return x ^ 1, [1 - a for a in f]


class LiteralTest(unittest.TestCase):

    def test_no_and_yes(self):
        self.assertEqual((NO, YES), (0, 1))
        pool = Pool()
        for bits in ({}, {("a",): 1}):
            self.assertEqual(pool.values([NO, YES], bits), [0, 1])
            self.assertEqual((pool.value(NO, bits), pool.value(YES, bits)), (0, 1))

    def test_named_bits(self):
        pool = Pool()
        literals = [pool.bit(name) for name in NAMES]
        self.assertEqual(len(set(x >> 1 for x in literals)), len(NAMES))
        for row in rows_of(NAMES):
            self.assertEqual(pool.values(literals, row), [row[name] for name in NAMES])
            self.assertEqual(pool.values([x ^ 1 for x in literals], row), [1 - row[name] for name in NAMES])

    def test_equal_names_have_one_literal(self):
        pool = Pool()
        for name in NAMES + ((), (0,), ("", 5), tuple(range(20)), ("both", 2, 4), ("bit", "a")):
            self.assertEqual(pool.bit(name), pool.bit(tuple(list(name))))
            self.assertIs(type(pool.bit(name)), int)

    def test_a_name_is_no_gate(self):
        pool = Pool()
        x, y = pool.bit(("a",)), pool.bit(("b",))
        z = pool.both(x, y)
        for kind in ("both", "unlike", "chosen", "most", "bit", "no"):
            for parts in ((x, y), (y, x), (NO, x, y), ()):
                name = (kind,) + parts
                self.assertEqual(pool.value(pool.bit(name), {("a",): 1, ("b",): 1}), 0)
                self.assertEqual(pool.value(pool.bit(name), {name: 1}), 1)
        self.assertEqual(pool.value(z, {("a",): 1, ("b",): 1}), 1)

    def test_names_left_out_are_0(self):
        pool = Pool()
        x, y = pool.bit(("a",)), pool.bit(("b",))
        self.assertEqual(pool.values([x, y, x ^ 1, pool.either(x, y)], {("b",): 1, ("other",): 1}), [0, 1, 1, 1])
        self.assertEqual(pool.values([x, y, x ^ 1, pool.either(x, y)], {}), [0, 0, 1, 0])

    def test_values_of_none_and_of_equal_literals(self):
        pool = Pool()
        x = pool.bit(("a",))
        self.assertEqual(pool.values([], {}), [])
        self.assertEqual(pool.values([x, x, x ^ 1, x, YES], {("a",): 1}), [1, 1, 0, 1, 1])

    def test_each_kind_of_all_literals_of_two_names(self):
        rows = rows_of(NAMES[:2])
        pool = Pool()
        a, b = pool.bit(NAMES[0]), pool.bit(NAMES[1])
        some = [NO, YES, a, a ^ 1, b, b ^ 1]
        for x, y, z in itertools.product(some, repeat=3):
            made = [pool.both(x, y), pool.either(x, y), pool.unlike(x, y), pool.chosen(x, y, z), pool.most(x, y, z)]
            for row in rows:
                f, g, h = pool.values([x, y, z], row)
                self.assertEqual(pool.values(made, row), [f & g, f | g, f ^ g, g if f else h, int(f + g + h >= 2)])
                self.assertEqual([pool.value(x, row) for x in made], pool.values(made, row))

    def test_any_of_some_literals(self):
        for seed in range(40):
            circuits = Circuits(seed, 60)
            for many in (0, 1, 2, 3, 5, 12):
                some = circuits.random.sample(circuits.made, many)
                literals = [x for x, _ in some]
                found = circuits.pool.any_of(literals)
                joined = circuits.pool.any_of(circuits.pool.joined(literals))
                for k, row in enumerate(circuits.rows):
                    expected = max([bits[k] for _, bits in some], default=0)
                    self.assertEqual(circuits.pool.values([found, joined], row), [expected, expected])

    def test_joined_sides_of_choices(self):
        # All that comes from a literal by choices is that literal again, in whatever order it stands.
        pool = Pool()
        a, b, c, d = [pool.bit((k,)) for k in range(4)]
        first, second = pool.both(a, b), pool.both(a, b ^ 1)
        some = [pool.both(first, c), pool.both(first, c ^ 1), pool.both(second, d), pool.both(second, d ^ 1)]
        for rows in itertools.permutations(some):
            self.assertEqual(pool.joined(list(rows)), [a])
        self.assertEqual(pool.joined([]), [])
        self.assertEqual(pool.joined([a, a]), [a])
        self.assertEqual(pool.joined([a, b, a ^ 1]), [b, YES])
        self.assertEqual(pool.joined([some[0], b, some[1]]), [b, first])
        self.assertEqual(pool.any_of([]), NO)
        self.assertEqual(pool.any_of([NO, a]), a)
        self.assertEqual(pool.any_of([b, YES, c]), YES)

    def test_literals_that_are_told_apart(self):
        for seed in range(40):
            circuits = Circuits(seed, 40)
            for (x, f), (y, g) in itertools.combinations(circuits.made, 2):
                if not any(a and b for a, b in zip(f, g)):
                    for first, second, bits, others in ((x, y, f, g), (y, x, g, f)):
                        found = circuits.pool.told_apart(first, second)
                        told = [circuits.pool.value(found, row) for row in circuits.rows]
                        self.assertTrue(all(bit == 1 for bit, a in zip(told, bits) if a == 1))
                        self.assertTrue(all(bit == 0 for bit, a in zip(told, others) if a == 1))

    def test_circuits_of_circuits(self):
        for seed in range(60):
            circuits = Circuits(seed, 60)
            literals = [x for x, _ in circuits.made]
            for k, row in enumerate(circuits.rows):
                self.assertEqual(circuits.pool.values(literals, row), [bits[k] for _, bits in circuits.made], seed)
            self.assertTrue(all(type(x) is int and x >= 0 for x in literals))

    def test_bits_are_integers(self):
        circuits = Circuits(7, 100)
        for row in circuits.rows:
            self.assertTrue(all(type(bit) is int for bit in circuits.pool.values([x for x, _ in circuits.made], row)))

    def test_literals_stay_good(self):
        circuits = Circuits(3, 40)
        pool = circuits.pool
        x = circuits.made[-1][0]
        for k in range(20000):
            x = pool.unlike(pool.both(x, pool.bit(("more", k))), pool.bit(("other", k % 5)))
        for k, row in enumerate(circuits.rows):
            self.assertEqual(pool.values([y for y, _ in circuits.made], row), [bits[k] for _, bits in circuits.made])
        for name in NAMES:
            self.assertEqual(pool.value(pool.bit(name), {name: 1}), 1)

    def test_pools_do_not_share_anything(self):
        first, second = Pool(), Pool()
        x = first.both(first.bit(("a",)), first.bit(("b",)))
        y = second.bit(("c",))
        self.assertEqual(second.values([y], {("c",): 1, ("a",): 0}), [1])
        self.assertEqual(first.value(x, {("a",): 1, ("b",): 1}), 1)

    def test_a_very_long_chain(self):
        pool = Pool()
        x = pool.bit((0,))
        for k in range(1, 60000):
            x = pool.unlike(x, pool.bit((k % 100,))) if k % 2 else pool.either(x, pool.bit((k % 7, "z")))
        self.assertIn(pool.value(x, {(k,): k % 2 for k in range(100)}), (0, 1))
        clauses, names = pool.clauses(x)
        self.assertLess(len(clauses), 300000)
        self.assertGreater(len(names), 50)

    def test_nothing_that_is_passed_in_is_changed(self):
        pool = Pool()
        x = pool.both(pool.bit(("a",)), pool.bit(("b",)))
        bits, literals = {("a",): 1}, [x, NO]
        pool.values(literals, bits)
        pool.value(x, bits)
        self.assertEqual((bits, literals), ({("a",): 1}, [x, NO]))


class ClausesTest(unittest.TestCase):

    def check_form(self, clauses, names, known):
        self.assertIs(type(clauses), tuple)
        self.assertIs(type(names), tuple)
        self.assertTrue(all(is_clause(clause) for clause in clauses), clauses)
        self.assertTrue(all(type(pair) is tuple and len(pair) == 2 for pair in names))
        self.assertEqual(len({name for name, _ in names}), len(names))
        self.assertEqual(len({variable for _, variable in names}), len(names))
        self.assertTrue(all(type(v) is int and v >= 1 for _, v in names))
        self.assertTrue({name for name, _ in names} <= set(known))

    def check_rows(self, pool, literal, names):
        """Compare the rows of bits that some filling has with those for which the literal is 1."""
        clauses, pairs = pool.clauses(literal)
        self.check_form(clauses, pairs, names)
        for row in rows_of(names):
            items = tuple(v if row[name] else -v for name, v in pairs)
            found = some_filling(clauses, items)
            self.assertEqual(found is not None, pool.value(literal, row) == 1, (literal, row))

    def test_no_and_yes(self):
        pool = Pool()
        pool.bit(("a",))
        clauses, names = pool.clauses(YES)
        self.check_form(clauses, names, [])
        self.assertIsNotNone(some_filling(clauses))
        clauses, names = pool.clauses(NO)
        self.check_form(clauses, names, [])
        self.assertIsNone(some_filling(clauses))

    def test_each_kind_of_gate(self):
        names = NAMES[:3]
        pool = Pool()
        literals = [pool.bit(name) for name in names]
        signs = [x ^ turned for x in literals for turned in (0, 1)] + [NO, YES]
        for x, y, z in itertools.product(signs, repeat=3):
            for literal in (pool.both(x, y), pool.either(x, y), pool.unlike(x, y), pool.chosen(x, y, z), pool.most(x, y, z)):
                self.check_rows(pool, literal, names)
                self.check_rows(pool, literal ^ 1, names)

    def test_small_circuits_against_all_rows(self):
        for seed in range(80):
            circuits = Circuits(seed, 25)
            for literal, _ in circuits.made[-3:]:
                self.check_rows(circuits.pool, literal, NAMES)
                self.check_rows(circuits.pool, literal ^ 1, NAMES)

    def test_all_fillings_of_a_small_circuit(self):
        pool = Pool()
        names = NAMES[:3]
        a, b, c = [pool.bit(name) for name in names]
        for literal in (pool.both(a, pool.unlike(b, c)), pool.either(a ^ 1, pool.both(b, c)), pool.chosen(a, b, c ^ 1), a):
            clauses, pairs = pool.clauses(literal)
            variables = variables_of(clauses)
            found = [filling for filling in all_fillings(variables) if keeps(filling, clauses)]
            for filling in found:
                for more in rows_of(names):
                    bits = dict(more)
                    bits.update({name: int(v in filling) for name, v in pairs})
                    self.assertEqual(pool.value(literal, bits), 1)
            rows = [row for row in rows_of(names) if pool.value(literal, row)]
            kept = {tuple(v if row[name] else -v for name, v in pairs) for row in rows}
            self.assertEqual({tuple(x for x in filling if abs(x) in [v for _, v in pairs]) for filling in found}, kept)

    def test_only_what_the_literal_is_made_of_counts(self):
        # So the clauses of a condition do not hang on what else was made in the pool.
        alone, among = Pool(), Pool()
        found = []
        for pool, more in ((alone, 0), (among, 500)):
            x, y, z = pool.bit(("a",)), pool.bit(("b",)), pool.bit(("c",))
            first = pool.both(x, y ^ 1)
            for k in range(more):
                pool.unlike(pool.bit((k,)), pool.both(z, pool.bit((k, k))))
            found.append(pool.clauses(pool.chosen(z, first, y)))
        self.assertEqual(found[0], found[1])

    def test_units_tell_the_literal_for_known_bits(self):
        pool = Pool()
        circuits = Circuits(11, 60)
        pool, literal = circuits.pool, circuits.made[-1][0]
        clauses, pairs = pool.clauses(literal)
        for row in circuits.rows:
            items = [(v,) if row[name] else (-v,) for name, v in pairs]
            self.assertEqual(follows(list(clauses) + items, ()), pool.value(literal, row) == 0)


if __name__ == "__main__":
    unittest.main()
