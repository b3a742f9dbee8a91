"""The tests of inputways.cover: promise [12.2]."""

import copy
import itertools
import random
import unittest

from inputways.cover import cover_clauses
from inputways.solver import solve
from plain_clauses import is_clause


def plain_clauses(sets, most):
    """The clauses once more, by the words of the promise."""
    m = len(sets)

    def at_least(i, j):
        return m + (i - 1) * most + j
    clauses = []
    for item in sorted({item for items in sets for item in items}):
        clauses.append(tuple(i for i in range(1, m + 1) if item in sets[i - 1]))
    for i in range(1, m + 1):
        if most == 0:
            clauses.append((-i,))
            continue
        clauses.append((-i, at_least(i, 1)))
        if i > 1:
            for j in range(1, most + 1):
                clauses.append((-at_least(i - 1, j), at_least(i, j)))
            for j in range(2, most + 1):
                clauses.append((-i, -at_least(i - 1, j - 1), at_least(i, j)))
            clauses.append((-i, -at_least(i - 1, most)))
    return tuple(clauses)


def some_cover(sets, most):
    """Whether so many sets, or fewer, have all items, by trying."""
    items = {item for some in sets for item in some}
    for size in range(min(most, len(sets)) + 1):
        for chosen in itertools.combinations(sets, size):
            if {item for some in chosen for item in some} == items:
                return True
    return False


class CoverTest(unittest.TestCase):

    def check(self, sets, most, expected):
        self.assertEqual(cover_clauses(sets, most), expected)
        self.assertEqual(plain_clauses(sets, most), expected)

    def test_no_set(self):
        for most in (0, 1, 2, 5):
            self.check((), most, ())

    def test_one_set(self):
        self.check((("a",),), 0, ((1,), (-1,)))
        self.check((("a",),), 1, ((1,), (-1, 2)))
        self.check((("a",),), 2, ((1,), (-1, 2)))
        self.check((("a", "b"),), 1, ((1,), (1,), (-1, 2)))
        self.check(((),), 0, ((-1,),))
        self.check(((),), 3, ((-1, 2),))

    def test_two_sets(self):
        sets = (("a", "b"), ("b", "c"))
        items = ((1,), (1, 2), (2,))
        self.check(sets, 0, items + ((-1,), (-2,)))
        self.check(sets, 1, items + ((-1, 3), (-2, 4), (-3, 4), (-2, -3)))
        self.check(sets, 2, items + ((-1, 3), (-2, 5), (-3, 5), (-4, 6), (-2, -3, 6), (-2, -4)))
        self.check(sets, 3, items + ((-1, 3), (-2, 6), (-3, 6), (-4, 7), (-5, 8), (-2, -3, 7), (-2, -4, 8), (-2, -5)))

    def test_three_sets_and_two_of_them(self):
        sets = ((("block", "f", 3), ("broken", 1)), (("block", "f", 3),), (("broken", 1), ("edge", "f", 3, 4)))
        self.check(sets, 2, ((1, 2), (1, 3), (3,),
                             (-1, 4),
                             (-2, 6), (-4, 6), (-5, 7), (-2, -4, 7), (-2, -5),
                             (-3, 8), (-6, 8), (-7, 9), (-3, -6, 9), (-3, -7)))
        self.check(sets, 1, ((1, 2), (1, 3), (3,), (-1, 4), (-2, 5), (-4, 5), (-2, -4), (-3, 6), (-5, 6), (-3, -5)))

    def test_sets_that_are_equal_or_empty(self):
        self.check((("a",), ("a",)), 1, ((1, 2), (-1, 3), (-2, 4), (-3, 4), (-2, -3)))
        self.check(((), ("a",), ()), 1, ((2,), (-1, 4), (-2, 5), (-4, 5), (-2, -4), (-3, 6), (-5, 6), (-3, -5)))
        self.check(((), ()), 0, ((-1,), (-2,)))

    def test_items_ascend_and_stand_once(self):
        sets = (("c", "a"), ("b", "c"), ("a", "d", "a"))
        self.check(sets, 0, ((1, 3), (2,), (1, 2), (3,), (-1,), (-2,), (-3,)))
        mixed = ((("index", "main", 0, -1), ("block", "main", 10)), (("block", "main", 9), ("broken", 7)), (("deep", "f", 0, 1),))
        self.check(mixed, 0, ((2,), (1,), (2,), (3,), (1,), (-1,), (-2,), (-3,)))

    def test_some_filling_keeps_them_just_where_there_is_a_cover(self):
        chance = random.Random(4)
        answers = []
        for _ in range(400):
            m, share = chance.randrange(6), chance.random()
            sets = tuple(tuple(item for item in range(chance.randint(1, 6)) if chance.random() < share) for _ in range(m))
            for most in range(m + 3):
                clauses = cover_clauses(sets, most)
                self.assertEqual(clauses, plain_clauses(sets, most))
                self.assertIs(type(clauses), tuple)
                self.assertTrue(all(is_clause(clause) for clause in clauses))
                answer, found = solve(clauses)
                self.assertEqual(answer == "yes", some_cover(sets, most), (sets, most))
                if answer == "yes":
                    taken = [sets[i - 1] for i in range(1, m + 1) if i in found]
                    self.assertLessEqual(len(taken), most)
                    self.assertEqual({item for some in taken for item in some}, {item for some in sets for item in some})
                answers.append(answer)
        self.assertGreater(answers.count("no"), 300)

    def test_each_cover_has_a_filling(self):
        sets = (("a", "b"), ("b", "c"), ("a", "c"), ("c",))
        for most in range(5):
            clauses = list(cover_clauses(sets, most))
            for taken in itertools.product((True, False), repeat=4):
                units = [(i + 1,) if is_taken else (-i - 1,) for i, is_taken in enumerate(taken)]
                items = {item for is_taken, some in zip(taken, sets) if is_taken for item in some}
                expected = items == {"a", "b", "c"} and sum(taken) <= most
                self.assertEqual(solve(clauses + units)[0] == "yes", expected, (most, taken))

    def test_many_sets(self):
        sets = tuple((k // 7, 100 + k % 11, 200 + k) if k % 40 == 0 else (k // 7, 100 + k % 11) for k in range(400))
        clauses = cover_clauses(sets, 70)
        self.assertEqual(clauses, plain_clauses(sets, 70))
        self.assertEqual(solve(clauses)[0], "yes")

    def test_nothing_that_is_passed_in_is_changed(self):
        sets = (("a", "b"), (), ("b",))
        kept = copy.deepcopy(sets)
        cover_clauses(sets, 2)
        self.assertEqual(sets, kept)


if __name__ == "__main__":
    unittest.main()
