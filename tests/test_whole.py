"""The tests of what the document promises over the whole program: promises [0.1] to [0.4]."""

import unittest

from chance import ClaimMaker, Maker, TakingMaker
from inputways.claims import check_claims, prove
from inputways.compare import least, parting
from inputways.errors import PackError, TextError, WaysError
from inputways.house import House
from inputways.packing import pack, unpack
from inputways.reach import check_reach, reach
from inputways.runs import items_of, met, run
from inputways.suites import check_suite, suite
from inputways.text import read_program, show_program
from inputways.trees import check_tree, explore, told_run, ways_of
from inputways.unrolling import unroll
from plain_trees import all_inputs
from plain_unrolling import told
from test_unrolling import ARRAYS, DEEP, LOOP, TAKES, TWICE


class WholeTest(unittest.TestCase):

    def compare(self, program, count, steps):
        """The items that are told to be met are the same ones, whoever tells it; return how many of all they are."""
        items = items_of(program)
        rows = list(all_inputs(program, count))
        some = tuple(item for item in items if any(item in met(program, row, steps=steps) for row in rows))
        tree = explore(program, count, steps=steps)
        self.assertTrue(check_tree(program, count, tree, steps=steps))
        ways = ways_of(program, count, tree, steps=steps)
        self.assertEqual(tuple(sorted({item for way in ways for item in way[2]})), some)
        value = suite(program, count, steps=steps)
        self.assertTrue(check_suite(program, count, value, steps=steps))
        self.assertEqual(tuple(sorted({item for row in value[0] for item in met(program, row, steps=steps)})), some)
        answers = {item: reach(program, item, count, steps=steps) for item in items}
        self.assertEqual(tuple(item for item in items if answers[item][0] == "met"), some)
        self.assertTrue(all(check_reach(program, item, count, answers[item], steps=steps) for item in items))
        self.assertEqual(tuple(item for item in items if least(program, item, count, steps=steps) is not None), some)
        house = House(program, count, steps)
        self.assertEqual(house.unmet(), tuple(item for item in items if item not in some))
        self.assertEqual(parting(program, program, count, steps=steps)[0], "alike")
        unrolling = unroll(program, count, steps)
        for row in rows:
            number, writes, end, path = told_run(program, row, tree, steps=steps)
            self.assertEqual((writes, end, path), run(program, row, steps=steps))
            self.assertEqual(house.run(row), (writes, end, path))
            self.assertEqual(ways[number][2], met(program, row, steps=steps))
            self.assertEqual(told(program, unrolling, row), (ways[number][2], [end[0]]))
        self.assertEqual(unpack(pack((program, value, tree))), (program, value, tree))
        self.assertEqual(read_program(show_program(program)), program)
        return len(some), len(items)

    def test_small_programs(self):
        for text, count in ((DEEP, 1), (TWICE, 1), (ARRAYS, 2), (TAKES, 3), (LOOP, 1)):
            for steps in (1, 4, 12 if text == TWICE else 30):
                self.compare(read_program(text), count, steps)

    def test_programs_by_chance(self):
        some = every = 0
        for seed in range(60):
            kind = (Maker, TakingMaker)[seed % 2]
            program = kind(seed, width=1 + seed % 3, blocks=7, body=1 + seed % 5).program()
            found = self.compare(program, 1 + seed % 2, 1 + seed % 17)
            some, every = some + found[0], every + found[1]
        self.assertGreater(some, 200)
        self.assertGreater(every - some, 100)

    def test_proved_programs_break_no_assertion(self):
        proved = 0
        for seed in range(80):
            maker = ClaimMaker(seed, width=2)
            program = maker.program()
            found = prove(program, maker.claims(program))
            if found is not None:
                proved += 1
                self.assertTrue(check_claims(program, found))
                for steps in (3, 15):
                    broken = [item for item in items_of(program) if item[0] == "broken"]
                    self.assertEqual({reach(program, item, 2, steps=steps)[0] for item in broken} - {"never"}, set())
        self.assertGreater(proved, 10)

    def test_errors(self):
        for kind in (TextError, PackError):
            self.assertTrue(issubclass(kind, WaysError))
        self.assertTrue(issubclass(WaysError, ValueError))
        for action in (lambda: pack([]), lambda: unpack([]), lambda: read_program("x")):
            self.assertRaises(WaysError, action)


if __name__ == "__main__":
    unittest.main()
