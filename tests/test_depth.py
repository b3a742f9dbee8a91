"""The tests that no function calls itself more than 100 deep, by [0.2], whatever grows long."""

import unittest

from inputways.errors import TextError
from inputways.pool import Pool
from inputways.runs import items_of, met, run
from inputways.text import read_program, show_program
from samples import nested, nested_cells, nested_left, nested_right, with_body
from watching import deepest_calls


class DepthTest(unittest.TestCase):

    def check(self, action):
        self.assertLessEqual(deepest_calls(action), 100)

    def test_texts(self):
        for made in (nested, nested_left, nested_right, nested_cells):
            program = with_body(("put", made(20)))
            text = show_program(program)
            self.check(lambda: show_program(program))
            self.check(lambda: read_program(text))
        for line in ("put " + "(" * 3000, "put " + "not(" * 3000 + "1" + ")" * 3000, "v1 = f(" * 3000):
            def refused():
                with self.assertRaises(TextError):
                    read_program("width 8\nprocedure main 0\nblock 0\n" + line + "\nreturn 0\n")
            self.check(refused)

    def test_runs(self):
        block = (("put", nested(20)), ("call", 0, "helper", (nested_left(20),)))
        helper = ("helper", 1, ((0, (), ("go", 1)), (1, (("call", 0, "helper", (("var", 0),)),), ("go", 1))))
        blocks = ((0, (), ("go", 1)), (1, (("set", 0, nested_right(20)),), ("if", ("var", 1), 2, 1)),
                  (2, block, ("go", 1)))
        for first in (0, 1):
            begin = ((0, (("set", 1, ("int", first)),), ("go", 1)),)
            program = (8, (), (helper, ("main", 0, begin + blocks[1:])))
            self.check(lambda: run(program, (), steps=2000))
            self.check(lambda: met(program, (), steps=2000))
            self.check(lambda: items_of(program))

    def test_pools(self):
        pool = Pool()
        x = pool.bit((0,))

        def long_chain():
            y = x
            for k in range(1, 3000):
                y = pool.chosen(pool.both(y, pool.bit((k,))), pool.unlike(y, x), pool.bit((-k,)))
            pool.value(y, {})
            pool.values([y, x, y ^ 1], {(0,): 1})
            pool.clauses(y)
        self.check(long_chain)


if __name__ == "__main__":
    unittest.main()
