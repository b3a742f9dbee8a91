"""The tests of inputways.packing: promise [13.1]."""

import copy
import random
import unittest

from inputways.errors import PackError, WaysError
from inputways.packing import pack, unpack
from inputways.reach import reach
from inputways.suites import suite
from inputways.text import read_program
from inputways.trees import explore
from watching import deepest_calls

PLACES = "abcdefghijklmnopqrstuvwxyz0123456789_"


def size(n):
    """The digits of a number."""
    return [n] if n < 128 else [128 + n % 128] + size(n // 128)


def plain_bytes(value):
    """The bytes once more, by the words of the promise."""
    if value is None or value is False or value is True:
        return [{None: 0, False: 1, True: 2}[value]]
    if type(value) is int:
        return [3] + size(value) if value >= 0 else [4] + size(-1 - value)
    if type(value) is str:
        return [5] + size(len(value)) + [PLACES.index(sign) for sign in value]
    return [6] + size(len(value)) + [byte for part in value for byte in plain_bytes(part)]


def nest(depth, leaf=()):
    """A tuple that nests so deep."""
    value = leaf
    for _ in range(depth - 1):
        value = (value,)
    return value


def is_same(first, second):
    """Whether two values are equal, and of the same kinds throughout."""
    if type(first) is not type(second):
        return False
    if type(first) is tuple:
        return len(first) == len(second) and all(is_same(x, y) for x, y in zip(first, second))
    return first == second


class PackTest(unittest.TestCase):

    def check(self, value, expected):
        found = pack(value)
        self.assertIs(type(found), list)
        self.assertTrue(all(type(byte) is int and 0 <= byte <= 255 for byte in found))
        self.assertEqual(found, expected)
        self.assertTrue(is_same(unpack(expected), value), value)

    def test_plain_kinds(self):
        self.check(None, [0])
        self.check(False, [1])
        self.check(True, [2])

    def test_integers(self):
        for value, expected in (
                (0, [3, 0]), (1, [3, 1]), (126, [3, 126]), (127, [3, 127]), (128, [3, 128, 1]), (129, [3, 129, 1]), (255, [3, 255, 1]),
                (256, [3, 128, 2]), (16382, [3, 254, 127]), (16383, [3, 255, 127]), (16384, [3, 128, 128, 1]),
                (16385, [3, 129, 128, 1]), (-1, [4, 0]), (-2, [4, 1]), (-127, [4, 126]), (-128, [4, 127]), (-129, [4, 128, 1]),
                (-130, [4, 129, 1]), (-16384, [4, 255, 127]), (-16385, [4, 128, 128, 1]), (-16386, [4, 129, 128, 1])):
            self.check(value, expected)

    def test_great_integers(self):
        for n in (2 ** 31, 2 ** 63 - 1, 2 ** 64, 10 ** 30, 128 ** 50, 128 ** 50 - 1, 10 ** 800):
            for value in (n, n - 1, -n, 1 - n, -1 - n):
                self.check(value, plain_bytes(value))
        self.check(128 ** 5, [3, 128, 128, 128, 128, 128, 1])
        self.check(-128 ** 5, [4, 255, 255, 255, 255, 127])

    def test_strings(self):
        self.check("", [5, 0])
        self.check("a", [5, 1, 0])
        self.check("z0", [5, 2, 25, 26])
        self.check("9_", [5, 2, 35, 36])
        self.check(PLACES, [5, 37] + list(range(37)))
        self.check("main", [5, 4, 12, 0, 8, 13])
        self.check("b" * 127, [5, 127] + [1] * 127)
        self.check("b" * 128, [5, 128, 1] + [1] * 128)
        self.check("c" * 20000, plain_bytes("c" * 20000))

    def test_tuples(self):
        self.check((), [6, 0])
        self.check(((),), [6, 1, 6, 0])
        self.check((None, True, False), [6, 3, 0, 2, 1])
        self.check((1, ("a", -1), ()), [6, 3, 3, 1, 6, 2, 5, 1, 0, 4, 0, 6, 0])
        self.check((0,) * 128, [6, 128, 1] + [3, 0] * 128)
        self.check((None,) * 20000, [6, 160, 156, 1] + [0] * 20000)

    def test_how_deep_tuples_nest(self):
        for depth in (1, 2, 59, 60):
            for leaf in ((), (5,), ("ab", None), (True,) * 3):
                value = nest(depth, leaf)
                self.check(value, plain_bytes(value))
        for depth in (61, 62, 70, 100, 101, 150, 1000, 20000):
            self.refuse(nest(depth))
            self.refuse((1, (2, nest(depth - 2)), 3))
        self.check((1, nest(59), nest(59)), plain_bytes((1, nest(59), nest(59))))
        self.refuse((1, nest(59), nest(60)))
        self.assertLessEqual(deepest_calls(lambda: pack(nest(60))), 100)
        self.assertLessEqual(deepest_calls(lambda: unpack(pack(nest(60)))), 100)
        self.assertLessEqual(deepest_calls(lambda: self.refuse(nest(1000))), 100)
        self.assertLessEqual(deepest_calls(lambda: self.assertRaises(PackError, unpack, [6, 1] * 1000)), 100)

    def refuse(self, value):
        with self.assertRaises(PackError) as caught:
            pack(value)
        self.assertEqual(caught.exception.at, -1)
        self.assertIsInstance(caught.exception, WaysError)

    def test_values_of_another_form(self):
        wrong = ([], [1], [()], {}, {"a": 1}, {1, 2}, b"", b"a", 1.0, 0.0, "A", "Z", "-", " ", "a b", "a.", "\n", "\0", "\u00e4", "\u03b1",
                 "abcA", "Aabc", "ab%cd", frozenset(), object(), int, range(3), 1j)
        for value in wrong:
            self.refuse(value)
            self.refuse((value,))
            self.refuse((1, "a", (value,), None))
            self.refuse(nest(60, (value,)))

    def test_what_the_package_makes(self):
        program = read_program("width 3\nprocedure main 0\nblock 0\nv0 = take\nassert 1 v0\nif (v0 mul v0) 1 2\nblock 1\nreturn 1\n"
                               "block 2\nassert 2 ((v0 and 1) equal 0)\nreturn 0\n")
        values = [program, explore(program, 1, steps=9), suite(program, 1, steps=9)]
        values += [reach(program, ("broken", k), 1, steps=9) for k in (1, 2)]
        for value in values:
            self.check(value, plain_bytes(value))

    def test_values_by_chance(self):
        chance = random.Random(2)

        def some(depth):
            kind = chance.randrange(8 if depth else 5)
            if kind == 0:
                return chance.choice((None, True, False))
            if kind == 1:
                return chance.choice((1, -1)) * chance.randrange(10 ** chance.randrange(12))
            if kind == 2:
                return chance.choice((127, 128, 16383, 16384, -128, -129, 0, -1))
            if kind < 5:
                return "".join(chance.choice(PLACES) for _ in range(chance.randrange(6)))
            return tuple(some(depth - 1) for _ in range(chance.randrange(5)))
        for _ in range(2000):
            value = some(5)
            self.check(value, plain_bytes(value))

    def test_nothing_that_is_passed_in_is_changed(self):
        value = (1, ("a", None), ())
        kept = copy.deepcopy(value)
        data = pack(value)
        self.assertEqual(value, kept)
        unpack(data)
        self.assertEqual(data, plain_bytes(value))
        for wrong in ([6], data + [7], data[:-1]):
            again = list(wrong)
            with self.assertRaises(PackError):
                unpack(wrong)
            self.assertEqual(wrong, again)


class UnpackTest(unittest.TestCase):

    def refuse(self, data, at):
        with self.assertRaises(PackError) as caught:
            unpack(data)
        self.assertEqual(caught.exception.at, at, data)

    def test_bytes_that_end_too_early(self):
        self.refuse([], 0)
        some = (True, 5, 300, -70000, "", "abc", "x" * 130, (), (1, 2), ((("a",), -129), 128, None), (0,) * 130, nest(60))
        for value in some:
            data = pack(value)
            for many in range(len(data)):
                self.refuse(data[:many], many)

    def test_a_number_without_an_end(self):
        for kind in (3, 4, 5, 6):
            self.refuse([kind], 1)
            self.refuse([kind] + [128] * 100, 101)
            self.refuse([kind] + [255] * 1000, 1001)
        self.refuse([5] + [255] * 20 + [1], 22)
        self.refuse([6] + [255] * 20 + [1], 22)
        self.refuse([6] + [255] * 20 + [1, 0, 0, 0], 25)

    def test_a_byte_that_is_no_kind(self):
        for byte in range(7, 256):
            self.refuse([byte], 0)
            self.refuse([byte, 0, 0], 0)
            self.refuse([6, 2, 0, byte], 3)
            self.refuse([6, 2, byte, 0], 2)
            self.refuse([6, 1, 6, 1, byte], 4)

    def test_what_is_no_byte(self):
        for wrong in (256, 300, -1, 10 ** 30, True, None, "a", 1.0):
            self.refuse([wrong], 0)
            self.refuse([3, wrong], 1)
            self.refuse([5, 1, wrong], 2)
            self.refuse([6, 2, 0, wrong], 3)

    def test_a_needless_last_digit(self):
        for kind in (3, 4, 5, 6):
            self.refuse([kind, 128, 0], 2)
            self.refuse([kind, 129, 0], 2)
            self.refuse([kind, 255, 128, 0], 3)
            self.refuse([kind, 128, 128, 0, 0], 3)
            self.refuse([6, 2, 3, 5, kind, 130, 0], 6)
        self.assertEqual(unpack([3, 0]), 0)
        self.assertEqual(unpack([4, 0]), -1)
        # A 0 in the middle is needed.
        self.assertEqual(unpack([3, 129, 128, 1]), 16385)

    def test_characters_that_do_not_exist(self):
        for byte in range(37, 256):
            self.refuse([5, 1, byte], 2)
            self.refuse([5, 3, 0, byte, 0], 3)
            self.refuse([5, 3, 0, 36, byte], 4)
            self.refuse([6, 2, 0, 5, 2, 1, byte], 6)
        for byte in range(37):
            self.assertEqual(unpack([5, 1, byte]), PLACES[byte])

    def test_bytes_behind_the_value(self):
        for value in (None, True, 5, 300, -5, "", "abc", (), (1, (2,)), nest(60)):
            data = pack(value)
            for extra in ([0], [7], [255], [3, 0], data):
                self.refuse(data + extra, len(data))

    def test_tuples_that_nest_too_deep(self):
        for depth in range(61, 70):
            self.refuse([6, 1] * (depth - 1) + [6, 0], 120)
        self.refuse([6, 1] * 20000, 120)
        self.assertTrue(is_same(unpack([6, 1] * 59 + [6, 0]), nest(60)))
        self.assertTrue(is_same(unpack([6, 1] * 60 + [3, 7]), nest(60, (7,))))
        self.refuse([6, 2] + [6, 1] * 58 + [6, 0] + [6, 1] * 59 + [6, 0], 2 + 58 * 2 + 2 + 59 * 2)

    def test_the_first_wrong_byte_counts(self):
        self.refuse([6, 2, 9, 9], 2)
        self.refuse([6, 3, 5, 1, 40, 9], 4)
        self.refuse([3, 1, 9, 9], 2)
        self.refuse([6, 2, 3, 128, 0, 9], 4)

    def test_all_short_bytes(self):
        # What unpack takes are the bytes of what it returns; of all others it tells a place.
        bytes_there = (0, 1, 2, 3, 4, 5, 6, 7, 36, 37, 127, 128, 255)
        rows = [[]]
        for _ in range(4):
            rows = [row + [byte] for row in rows for byte in bytes_there]
            for row in rows:
                try:
                    value = unpack(row)
                except PackError as error:
                    self.assertTrue(0 <= error.at <= len(row))
                    if error.at < len(row):
                        # The bytes ahead of that place could go on, or are a whole value.
                        self.check_goes_on(row[:error.at])
                else:
                    self.assertEqual(pack(value), row)

    def check_goes_on(self, row):
        try:
            self.assertEqual(pack(unpack(row)), row)
        except PackError as error:
            self.assertEqual(error.at, len(row))


if __name__ == "__main__":
    unittest.main()
