"""The tests of inputways.words: promise [1.1]."""

import unittest

from inputways.words import PAIRS, SINGLES, compute, top

WIDTHS = (1, 2, 3, 5, 8, 13, 16)

# Each op once more, by plain arithmetic, to compare with.
MEANINGS = {
    "add": lambda w, x, y: (x + y) % 2 ** w,
    "sub": lambda w, x, y: (x - y) % 2 ** w,
    "mul": lambda w, x, y: (x * y) % 2 ** w,
    "and": lambda w, x, y: sum(2 ** k for k in range(w) if bit(x, k) + bit(y, k) == 2),
    "or": lambda w, x, y: sum(2 ** k for k in range(w) if bit(x, k) + bit(y, k) >= 1),
    "xor": lambda w, x, y: sum(2 ** k for k in range(w) if bit(x, k) + bit(y, k) == 1),
    "shl": lambda w, x, y: 0 if y >= w else (x * 2 ** y) % 2 ** w,
    "shr": lambda w, x, y: 0 if y >= w else x // 2 ** y,
    "less": lambda w, x, y: int(x < y),
    "equal": lambda w, x, y: int(x == y),
    "not": lambda w, x, y: sum(2 ** k for k in range(w) if bit(x, k) == 0),
    "neg": lambda w, x, y: (2 ** w - x) % 2 ** w,
}


def bit(x, k):
    return x // 2 ** k % 2


def edge_words(w):
    """The words of a width at which an op may turn."""
    some = (0, 1, 2, 3, w - 1, w, w + 1, 2 ** (w - 1) - 1, 2 ** (w - 1), 2 ** (w - 1) + 1,
            0b1010110011110000, 2 ** w // 3, 2 ** w - 2, 2 ** w - 1)
    return sorted({x for x in some if 0 <= x < 2 ** w})


class OpsTest(unittest.TestCase):

    def check(self, op, w, x, y):
        got = compute(op, w, x, y)
        self.assertIs(type(got), int, (op, w, x, y))
        self.assertEqual(got, MEANINGS[op](w, x, y), (op, w, x, y))

    def test_the_tuples_of_ops(self):
        self.assertEqual(PAIRS, ("add", "sub", "mul", "and", "or", "xor", "shl", "shr", "less", "equal"))
        self.assertEqual(SINGLES, ("not", "neg"))
        self.assertIs(type(PAIRS), tuple)
        self.assertIs(type(SINGLES), tuple)

    def test_all_words_of_small_widths(self):
        for w in (1, 2, 3, 4):
            for op in PAIRS + SINGLES:
                for x in range(2 ** w):
                    for y in range(2 ** w):
                        self.check(op, w, x, y)

    def test_edge_words_of_all_widths(self):
        for w in range(1, 17):
            for op in PAIRS + SINGLES:
                for x in edge_words(w):
                    for y in edge_words(w):
                        self.check(op, w, x, y)

    def test_shifts_below_at_and_above_the_width(self):
        for w in WIDTHS:
            for op in ("shl", "shr"):
                for x in edge_words(w):
                    for y in range(min(2 * w + 3, 2 ** w)):
                        self.check(op, w, x, y)
                    self.check(op, w, x, 2 ** w - 1)

    def test_known_results_at_width_1(self):
        rows = (
            ("add", 1, 1, 0), ("sub", 0, 1, 1), ("mul", 1, 1, 1), ("and", 1, 0, 0), ("or", 1, 0, 1),
            ("xor", 1, 1, 0), ("shl", 1, 0, 1), ("shl", 1, 1, 0), ("shr", 1, 0, 1), ("shr", 1, 1, 0),
            ("less", 0, 1, 1), ("less", 1, 1, 0), ("equal", 1, 1, 1), ("equal", 0, 1, 0),
            ("not", 0, 0, 1), ("not", 1, 0, 0), ("neg", 0, 0, 0), ("neg", 1, 0, 1),
        )
        for op, x, y, expected in rows:
            self.assertEqual(compute(op, 1, x, y), expected, (op, x, y))

    def test_known_results_at_width_8(self):
        rows = (
            ("add", 250, 10, 4), ("sub", 3, 5, 254), ("mul", 20, 13, 4), ("mul", 255, 255, 1),
            ("and", 204, 170, 136), ("or", 204, 170, 238), ("xor", 204, 170, 102),
            ("shl", 129, 1, 2), ("shl", 1, 7, 128), ("shl", 1, 8, 0), ("shl", 255, 9, 0),
            ("shr", 129, 1, 64), ("shr", 128, 7, 1), ("shr", 255, 8, 0), ("shr", 255, 255, 0),
            ("less", 4, 5, 1), ("less", 5, 5, 0), ("less", 255, 0, 0), ("equal", 5, 5, 1), ("equal", 5, 4, 0),
            ("not", 204, 0, 51), ("neg", 1, 0, 255), ("neg", 0, 0, 0), ("neg", 128, 0, 128),
        )
        for op, x, y, expected in rows:
            self.assertEqual(compute(op, 8, x, y), expected, (op, x, y))

    def test_known_results_at_width_16(self):
        rows = (
            ("add", 65535, 1, 0), ("add", 65535, 65535, 65534), ("sub", 0, 1, 65535), ("mul", 256, 256, 0),
            ("mul", 65535, 65535, 1), ("shl", 3, 15, 32768), ("shl", 3, 16, 0), ("shl", 1, 65535, 0),
            ("shr", 65535, 15, 1), ("shr", 65535, 16, 0), ("shr", 65535, 17, 0), ("less", 65534, 65535, 1),
            ("equal", 65535, 65535, 1), ("not", 0, 0, 65535), ("neg", 65535, 0, 1),
        )
        for op, x, y, expected in rows:
            self.assertEqual(compute(op, 16, x, y), expected, (op, x, y))

    def test_the_second_part_is_not_looked_at_for_ops_of_one(self):
        for y in (None, "word", (), [1], -1, 2 ** 70, True):
            for w in WIDTHS:
                for x in edge_words(w):
                    for op in SINGLES:
                        self.assertEqual(compute(op, w, x, y), MEANINGS[op](w, x, 0), (op, w, x, y))

    def test_a_comparison_gives_an_integer_and_no_truth_value(self):
        for op in ("less", "equal"):
            for x in (0, 1):
                for y in (0, 1):
                    self.assertIs(type(compute(op, 1, x, y)), int)


class TopTest(unittest.TestCase):

    def test_the_greatest_word_of_each_width(self):
        self.assertEqual([top(w) for w in range(1, 17)],
                         [1, 3, 7, 15, 31, 63, 127, 255, 511, 1023, 2047, 4095, 8191, 16383, 32767, 65535])


if __name__ == "__main__":
    unittest.main()
