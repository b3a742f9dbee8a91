"""The tests of inputways.bitwords: promise [5.3]."""

import itertools
import random
import unittest

from inputways.bitwords import (added, chosen_word, computed, constant, equal_word, is_true, less_word, single,
                                word_value)
from inputways.pool import NO, YES, Pool
from inputways.words import PAIRS, SINGLES, compute
from test_words import edge_words


def named(pool, name, w):
    """A word of named bits."""
    return [pool.bit((name, k)) for k in range(w)]


def bits_of(w, **numbers):
    """The bits for which named words have these numbers."""
    return {(name, k): number >> k & 1 for name, number in numbers.items() for k in range(w)}


class Words:
    """Two named words, and each of them as a number, in one pool."""

    def __init__(self, w):
        self.w, self.pool = w, Pool()
        self.x, self.y = named(self.pool, "x", w), named(self.pool, "y", w)

    def pairs(self, a, b):
        """Ways to write down the words a and b."""
        one, two = constant(self.pool, a, self.w), constant(self.pool, b, self.w)
        mixed = [one[k] if k % 2 else self.x[k] for k in range(self.w)]
        return ((self.x, self.y), (one, self.y), (self.x, two), (one, two), (mixed, self.y))


class ConstantTest(unittest.TestCase):

    def test_literals_are_no_and_yes(self):
        pool = Pool()
        for w in range(1, 17):
            for n in edge_words(w):
                word = constant(pool, n, w)
                self.assertIs(type(word), list)
                self.assertEqual(word, [YES if n >> k & 1 else NO for k in range(w)])
                self.assertEqual(word_value(pool, word, {}), n)

    def test_word_value_has_the_lowest_bit_first(self):
        pool = Pool()
        word = named(pool, "x", 4)
        self.assertEqual(word_value(pool, word, {("x", 0): 1}), 1)
        self.assertEqual(word_value(pool, word, {("x", 3): 1, ("x", 1): 1}), 10)
        self.assertEqual(word_value(pool, word, {}), 0)
        self.assertEqual(word_value(pool, [YES, NO, word[0] ^ 1], {}), 5)


class OpsTest(unittest.TestCase):

    def check(self, words, a, b):
        w, pool, bits = words.w, words.pool, bits_of(words.w, x=a, y=b)
        for x, y in words.pairs(a, b):
            for op in PAIRS:
                found = computed(pool, op, x, y)
                self.assertEqual(len(found), w)
                self.assertEqual(word_value(pool, found, bits), compute(op, w, a, b), (op, w, a, b))
            for op in SINGLES:
                found = single(pool, op, x)
                self.assertEqual(len(found), w)
                self.assertEqual(word_value(pool, found, bits), compute(op, w, a, 0), (op, w, a))
            for carry in (0, 1):
                for literal in (carry, pool.bit(("carry",))):
                    found = added(pool, x, y, literal)
                    self.assertEqual(len(found), w)
                    bits[("carry",)] = carry
                    self.assertEqual(word_value(pool, found, bits), (a + b + carry) % 2 ** w)
            literals = [less_word(pool, x, y), equal_word(pool, x, y), is_true(pool, x)]
            self.assertEqual(pool.values(literals, bits), [int(a < b), int(a == b), int(a != 0)])
            for literal in (NO, YES, pool.bit(("carry",)), pool.bit(("carry",)) ^ 1):
                found = chosen_word(pool, literal, x, y)
                self.assertEqual(word_value(pool, found, bits), a if pool.value(literal, bits) else b)

    def test_all_words_of_small_widths(self):
        for w in (1, 2, 3):
            words = Words(w)
            for a, b in itertools.product(range(2 ** w), repeat=2):
                self.check(words, a, b)

    def test_one_circuit_for_all_words(self):
        for w in (4, 5):
            words = Words(w)
            for op in PAIRS + SINGLES:
                found = computed(words.pool, op, words.x, words.y) if op in PAIRS else single(words.pool, op, words.x)
                for a, b in itertools.product(range(2 ** w), repeat=2):
                    self.assertEqual(word_value(words.pool, found, bits_of(w, x=a, y=b)), compute(op, w, a, b), (op, a, b))

    def test_some_words_of_great_widths(self):
        for w in (7, 8, 15, 16):
            words = Words(w)
            some = edge_words(w)
            chance = random.Random(w)
            for a, b in [(chance.choice(some), chance.choice(some)) for _ in range(12)]:
                self.check(words, a, b)
            for a in (0, 1, 2 ** w - 1):
                self.check(words, a, chance.randrange(2 ** w))

    def test_shifts_at_each_distance(self):
        for w in (1, 3, 5, 8, 16):
            words = Words(w)
            left = computed(words.pool, "shl", words.x, words.y)
            right = computed(words.pool, "shr", words.x, words.y)
            number = 0b1011011101101101 % 2 ** w
            for b in [b for b in list(range(2 * w + 2)) + [2 ** w // 2, 2 ** w - 1] if b < 2 ** w]:
                bits = bits_of(w, x=number, y=b)
                self.assertEqual(word_value(words.pool, left, bits), compute("shl", w, number, b))
                self.assertEqual(word_value(words.pool, right, bits), compute("shr", w, number, b))

    def test_a_word_with_itself(self):
        for w in (1, 2, 3):
            words = Words(w)
            for op in PAIRS:
                found = computed(words.pool, op, words.x, words.x)
                for a in range(2 ** w):
                    self.assertEqual(word_value(words.pool, found, bits_of(w, x=a)), compute(op, w, a, a), (op, a))

    def test_nothing_that_is_passed_in_is_changed(self):
        words = Words(5)
        pool, x, y = words.pool, words.x, words.y
        kept = (list(x), list(y))
        results = [computed(pool, op, x, y) for op in PAIRS] + [single(pool, op, x) for op in SINGLES]
        results += [added(pool, x, y, YES), chosen_word(pool, YES, x, y), chosen_word(pool, NO, x, y)]
        for found in results:
            found.append(NO)
            found[0] = NO
        self.assertEqual((x, y), kept)


if __name__ == "__main__":
    unittest.main()
