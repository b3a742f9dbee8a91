"""The tests of items_of and met of inputways.runs: promise [4.4]."""

import itertools
import unittest

from chance import Maker
from inputways.programs import program_faults
from inputways.runs import items_of, met
from plain_runs import PlainRun

ZERO, ONE = ("int", 0), ("int", 1)
CELL = ("cell", "cells", ("var", 0))
HELPER = ("helper", 1, ((5, (("put", CELL),), ("if", CELL, 6, 7)), (6, (), ("return", ONE)), (7, (), ("go", 6))))


def program_of(*blocks, helpers=(HELPER,)):
    program = (8, (("cells", 2), ("table", 8)), helpers + (("main", 0, blocks),))
    assert program_faults(program) == []
    return program


def body(*items, end=("return", ONE)):
    return program_of((0, items, end), helpers=())


HELPER_ITEMS = (("block", "helper", 5), ("block", "helper", 6), ("block", "helper", 7),
                ("edge", "helper", 5, 6), ("edge", "helper", 5, 7), ("edge", "helper", 7, 6),
                ("index", "helper", 5, -1), ("index", "helper", 5, 0))


class ItemsTest(unittest.TestCase):

    def test_blocks_and_edges(self):
        program = program_of((3, (), ("if", ONE, 9, 1)), (9, (), ("go", 1)), (1, (), ("if", ZERO, 2, 2)),
                             (2, (), ("return", ONE)), (4, (), ("go", 4)), helpers=())
        self.assertEqual(items_of(program), (
            ("block", "main", 1), ("block", "main", 2), ("block", "main", 3), ("block", "main", 4), ("block", "main", 9),
            ("edge", "main", 1, 2), ("edge", "main", 3, 1), ("edge", "main", 3, 9), ("edge", "main", 4, 4),
            ("edge", "main", 9, 1)))

    def test_items_of_each_statement(self):
        rows = (
            (("set", 0, ONE), ()), (("set", 0, CELL), (("index", "main", 0, 0),)),
            (("take", 0), ()), (("put", ONE), ()), (("put", CELL), (("index", "main", 0, 0),)),
            (("put", ("not", CELL)), (("index", "main", 0, 0),)), (("put", ("add", ONE, CELL)), (("index", "main", 0, 0),)),
            (("put", ("add", CELL, CELL)), (("index", "main", 0, 0),)),
            (("put", ("cell", "table", CELL)), (("index", "main", 0, 0),)),
            (("store", "cells", ONE, ONE), (("index", "main", 0, 0),)),
            (("store", "cells", CELL, CELL), (("index", "main", 0, 0),)),
            (("assert", 7, ONE), (("broken", 7),)), (("assert", 7, CELL), (("broken", 7), ("index", "main", 0, 0))),
        )
        for item, expected in rows:
            self.assertEqual(items_of(body(item)), tuple(sorted((("block", "main", 0),) + expected)), item)

    def test_calls(self):
        program = program_of((0, (("call", 1, "helper", (ONE,)), ("put", ONE), ("call", 1, "helper", (CELL,))),
                              ("return", ONE)))
        self.assertEqual(items_of(program), tuple(sorted(HELPER_ITEMS + (
            ("block", "main", 0), ("deep", "main", 0, 0), ("deep", "main", 0, 2), ("index", "main", 0, 2)))))

    def test_ends(self):
        block = ("block", "main", 0)
        self.assertEqual(items_of(body(end=("return", CELL))), (block, ("index", "main", 0, -1)))
        self.assertEqual(items_of(body(end=("return", ONE))), (block,))
        program = program_of((0, (), ("if", CELL, 1, 1)), (1, (), ("return", ONE)), helpers=())
        self.assertEqual(items_of(program), (block, ("block", "main", 1), ("edge", "main", 0, 1), ("index", "main", 0, -1)))

    def test_each_item_stands_once(self):
        program = program_of((0, (("assert", 7, ONE), ("assert", 7, ZERO), ("assert", 3, ZERO)), ("go", 1)),
                             (1, (("assert", 7, ONE),), ("return", ONE)), helpers=())
        self.assertEqual(items_of(program), (("block", "main", 0), ("block", "main", 1), ("broken", 3), ("broken", 7),
                                             ("edge", "main", 0, 1)))


class MetTest(unittest.TestCase):

    def test_blocks_and_edges_of_the_path(self):
        program = program_of((3, (("take", 0),), ("if", ("var", 0), 9, 1)), (9, (), ("go", 1)), (1, (), ("return", ONE)),
                             helpers=())
        self.assertEqual(met(program, (1,), steps=9), (
            ("block", "main", 1), ("block", "main", 3), ("block", "main", 9), ("edge", "main", 3, 9), ("edge", "main", 9, 1)))
        self.assertEqual(met(program, (0,), steps=9), (("block", "main", 1), ("block", "main", 3), ("edge", "main", 3, 1)))

    def test_an_edge_to_a_block_that_is_not_begun_is_not_met(self):
        program = program_of((3, (), ("go", 1)), (1, (), ("return", ONE)), helpers=())
        self.assertEqual(met(program, (), steps=0), ())
        self.assertEqual(met(program, (), steps=1), (("block", "main", 3),))
        self.assertEqual(met(program, (), steps=2), (("block", "main", 1), ("block", "main", 3), ("edge", "main", 3, 1)))

    def test_edges_around_a_call(self):
        program = program_of((0, (("call", 1, "helper", (ONE,)),), ("go", 4)), (4, (), ("return", ONE)))
        self.assertEqual(met(program, (), steps=9), (
            ("block", "helper", 5), ("block", "helper", 6), ("block", "helper", 7), ("block", "main", 0),
            ("block", "main", 4), ("edge", "helper", 5, 7), ("edge", "helper", 7, 6), ("edge", "main", 0, 4)))

    def test_an_edge_that_is_met_twice_stands_once(self):
        program = program_of((0, (), ("go", 1)), (1, (), ("go", 1)), helpers=())
        self.assertEqual(met(program, (), steps=9), (
            ("block", "main", 0), ("block", "main", 1), ("edge", "main", 0, 1), ("edge", "main", 1, 1)))

    def test_each_of_the_ends(self):
        block = ("block", "main", 0)
        self.assertEqual(met(body(("assert", 7, ONE)), (), steps=1), (block,))
        self.assertEqual(met(body(("assert", 7, ZERO), ("assert", 8, ZERO)), (), steps=1), (block, ("broken", 7)))
        self.assertEqual(met(body(("put", ONE), ("put", CELL)), (), steps=1), (block,))
        item = ("put", ("cell", "cells", ("int", 2)))
        self.assertEqual(met(body(("put", ONE), item), (), steps=1), (block, ("index", "main", 0, 1)))
        self.assertEqual(met(body(end=("return", item[1])), (), steps=1), (block, ("index", "main", 0, -1)))
        deep = ("helper", 0, ((5, (("put", ONE), ("call", 0, "helper", ())), ("return", ONE)),))
        program = program_of((0, (("call", 0, "helper", ()),), ("return", ONE)), helpers=(deep,))
        self.assertEqual(met(program, (), steps=99), (("block", "helper", 5), block, ("deep", "helper", 5, 1)))
        self.assertEqual(met(program, (), steps=11), (("block", "helper", 5), block))

    def test_against_runs_by_recursion(self):
        ends = set()
        for seed in range(300):
            program = Maker(seed).program()
            items = items_of(program)
            self.assertEqual(items, tuple(sorted(set(items))))
            for inputs in itertools.product(range(4), repeat=2):
                for steps in (2, 30):
                    plain = PlainRun(program, inputs, steps)
                    found = met(program, inputs, steps=steps)
                    self.assertEqual(found, plain.met(), (seed, inputs, steps))
                    self.assertTrue(set(found) <= set(items), (seed, inputs, steps))
                    ends.add(plain.end[0])
        self.assertEqual(ends, {"return", "broken", "index", "deep", "none"})


if __name__ == "__main__":
    unittest.main()
