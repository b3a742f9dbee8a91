"""The tests of inputways.house: promises [9.1] and [9.2]."""

import copy
import unittest

from chance import Maker
from inputways.house import House
from inputways.programs import program_faults
from inputways.runs import items_of, run
from inputways.text import read_program
from inputways.trees import check_tree, explore, ways_of
from plain_trees import all_inputs
from samples import ODD_VALUES, nested
from watching import deepest_calls

ENDS = read_program(
    "width 4\narray a 2\nprocedure f 1\nblock 0\nv1 = f(v0)\nreturn v1\nprocedure main 0\nblock 0\nv0 = take\n"
    "assert 3 v0\nput a[(v0 sub 1)]\nif (v0 equal 1) 1 2\nblock 1\nreturn v0\nblock 2\nv1 = take\nif v1 3 4\n"
    "block 3\nv0 = f(v1)\ngo 4\nblock 4\ngo 4\n")
# Three ways: v0 is 3, v0 is not 3 and v1 is 0, neither.
THREE = read_program("width 2\nprocedure main 0\nblock 0\nv0 = take\nv1 = take\nif (v0 equal 3) 1 2\n"
                     "block 1\nput v0\nreturn 1\nblock 2\nassert 5 v1\nput v1\nreturn v0\n")
ONE = read_program("width 2\nprocedure main 0\nblock 0\nv0 = take\nreturn v0\n")
FAULTY = (None, (2, (), ()), (2, (), (("main", 0, ((0, (), ("go", 5)),)),)), list(THREE), THREE + (0,), "width 2\n",
          (0,) + THREE[1:], (2, (), (("main", 1, THREE[2][0][2]),)), (2, [], THREE[2])) + ODD_VALUES

QUESTIONS = ("tree", "ways", "run", "unmet", "examples", "report")


def ask(house, question, row=(0, 0), item=("block", "main", 0)):
    """Ask a house one of its questions."""
    if question == "run":
        return house.run(row)
    if question == "examples":
        return house.examples(item)
    return getattr(house, question)()


class AnswersTest(unittest.TestCase):

    def compare(self, house, program, count, steps):
        """Compare all answers with what explore, ways_of and run tell of the program and the numbers."""
        tree = explore(program, count, steps=steps)
        ways = ways_of(program, count, tree, steps=steps)
        self.assertEqual(house.tree(), tree)
        self.assertTrue(check_tree(program, count, house.tree(), steps=steps))
        self.assertEqual(house.ways(), ways)
        self.assertIs(type(house.ways()), list)
        for row in all_inputs(program, count):
            self.assertEqual(house.run(row), run(program, row, steps=steps))
        items = items_of(program)
        met = {item for way in ways for item in way[2]}
        self.assertEqual(house.unmet(), tuple(item for item in items if item not in met))
        for item in items + (("block", "nobody", 1), ("broken", 77)):
            expected = tuple(sorted(way[3] for way in ways if item in way[2]))
            self.assertEqual(house.examples(item), expected)
        words = [way[0][0] for way in ways]
        lines = [f"ways {len(ways)}"] + [f"{word} {words.count(word)}" for word in sorted(set(words))]
        lines.append(f"unmet {len(items) - len(met)}")
        self.assertEqual(house.report(), "\n".join(lines) + "\n")

    def test_three_ways(self):
        self.compare(House(THREE, 2, 9), THREE, 2, 9)
        house = House(THREE, 2, 9)
        self.assertEqual(house.report(), "ways 3\nbroken 1\nreturn 2\nunmet 0\n")
        self.assertEqual(len(house.examples(("block", "main", 0))), 3)
        self.assertEqual(house.examples(("broken", 5)), tuple(way[3] for way in house.ways() if way[0] == ("broken", 5)))
        self.assertEqual(house.examples(("broken", 4)), ())
        house.bound(1, 9)
        self.assertEqual(house.report(), "ways 2\nbroken 1\nreturn 1\nunmet 0\n")
        house.bound(0, 9)
        self.assertEqual(house.report(), "ways 1\nbroken 1\nunmet 2\n")
        self.assertEqual(house.unmet(), (("block", "main", 1), ("edge", "main", 0, 1)))
        house.bound(2, 1)
        self.assertEqual(house.report(), "ways 2\nnone 2\nunmet 5\n")
        house.bound(2, 0)
        self.assertEqual(house.report(), "ways 1\nnone 1\nunmet 6\n")
        self.assertEqual(house.unmet(), items_of(THREE))

    def test_lines_of_all_ends_in_their_order(self):
        house = House(ENDS, 2, 30)
        self.assertEqual(house.report(), "ways 5\nbroken 1\ndeep 1\nindex 1\nnone 1\nreturn 1\nunmet 2\n")
        self.assertEqual(house.unmet(), (("deep", "main", 3, 0), ("edge", "main", 3, 4)))
        self.compare(house, ENDS, 2, 30)

    def test_examples_ascend(self):
        # The ways stand in another order than their inputs.
        house = House(THREE, 2, 9)
        rows = [way[3] for way in house.ways()]
        self.assertNotEqual(rows, sorted(rows))
        self.assertEqual(house.examples(("block", "main", 0)), tuple(sorted(rows)))

    def test_programs_by_chance(self):
        for seed in range(60):
            program, count, steps = Maker(seed).program(), seed % 3, 2 + seed % 12
            self.compare(House(program, count, steps), program, count, steps)

    def test_what_is_returned_may_be_changed(self):
        house = House(THREE, 2, 9)
        kept = copy.deepcopy(house.ways())
        house.ways().clear()
        house.ways().append(None)
        self.assertEqual(house.ways(), kept)

    def test_deep_expressions(self):
        program = (8, (), (("main", 0, ((0, (("take", 0),), ("if", nested(20, ("var", 0)), 1, 2)),
                                        (1, (), ("return", ("int", 1))), (2, (), ("return", ("int", 0))))),))
        self.assertEqual(program_faults(program), [])
        house = House(program, 1, 9)
        self.assertEqual(len(house.ways()), 2)
        self.assertLessEqual(deepest_calls(lambda: House(program, 1, 9).report()), 100)


class ChangeTest(unittest.TestCase):

    compare = AnswersTest.compare

    def test_another_program(self):
        house = House(THREE, 2, 9)
        for program in (ONE, ENDS, THREE, ONE):
            self.assertIs(house.change(program), True)
            self.compare(house, program, 2, 9)

    def test_a_program_with_faults_changes_nothing(self):
        house = House(THREE, 2, 9)
        report = house.report()
        for value in FAULTY:
            self.assertIs(house.change(value), False)
            self.assertEqual(house.report(), report)
            self.assertEqual(house.made, 1)
        self.compare(house, THREE, 2, 9)
        self.assertIs(house.change(ONE), True)
        for value in FAULTY:
            self.assertIs(house.change(value), False)
        self.compare(house, ONE, 2, 9)

    def test_other_numbers(self):
        house = House(THREE, 2, 9)
        for count, steps in ((1, 9), (2, 1), (0, 9), (3, 0), (2, 9)):
            house.bound(count, steps)
            self.compare(house, THREE, count, steps)
        house.change(ENDS)
        self.compare(house, ENDS, 2, 9)
        house.bound(1, 30)
        self.compare(house, ENDS, 1, 30)

    def test_programs_and_numbers_by_chance(self):
        house = House(THREE, 2, 9)
        program, count, steps = THREE, 2, 9
        for seed in range(60):
            if seed % 3 == 0:
                count, steps = seed % 2 + 1, 3 + seed % 4
                house.bound(count, steps)
            elif seed % 3 == 1:
                program = Maker(seed % 20).program()
                self.assertIs(house.change(program), True)
            else:
                self.assertIs(house.change((seed,) + program[:2]), False)
            self.compare(house, program, count, steps)


class MadeTest(unittest.TestCase):

    def test_no_tree_is_made_before_an_answer_is_asked_for(self):
        house = House(THREE, 2, 9)
        self.assertEqual(house.made, 0)
        house.change(ONE)
        house.bound(1, 5)
        house.change(None)
        self.assertEqual(house.made, 0)

    def test_each_question_asked_first(self):
        for question in QUESTIONS:
            house = House(THREE, 2, 9)
            ask(house, question)
            self.assertEqual(house.made, 1, question)
            for other in QUESTIONS:
                ask(house, other)
            self.assertEqual(house.made, 1, question)

    def test_each_question_asked_first_behind_a_change(self):
        for question in QUESTIONS:
            house = House(THREE, 2, 9)
            for k, (program, count, steps) in enumerate(((ONE, 2, 9), (ONE, 2, 8), (THREE, 2, 8), (THREE, 2, 9))):
                house.change(program)
                house.bound(count, steps)
                expected = ask(House(program, count, steps), question)
                self.assertEqual(ask(house, question), expected)
                self.assertEqual(house.made, k + 1)

    def test_programs_and_numbers_that_come_back(self):
        house = House(THREE, 2, 9)
        house.report()
        house.change(ONE)
        self.assertEqual(house.made, 1)
        house.report()
        self.assertEqual(house.made, 2)
        house.change(THREE)
        house.unmet()
        self.assertEqual(house.made, 2)
        house.bound(2, 8)
        house.ways()
        self.assertEqual(house.made, 3)
        house.bound(1, 9)
        house.ways()
        self.assertEqual(house.made, 4)
        house.bound(2, 9)
        house.tree()
        house.bound(2, 8)
        house.tree()
        house.change(ONE)
        house.bound(2, 9)
        house.run((0, 1))
        self.assertEqual(house.made, 4)
        house.bound(2, 8)
        self.assertEqual(house.made, 4)
        house.run((0, 1))
        self.assertEqual(house.made, 5)
        # An equal program is the same one.
        house.change(copy.deepcopy(THREE))
        house.bound(1, 9)
        house.report()
        self.assertEqual(house.made, 5)

    def test_programs_that_differ_in_little(self):
        texts = ["return 1", "return 2", "v1 = 1\nreturn 1", "put 1\nreturn 1", "assert 1 1\nreturn 1", "assert 2 1\nreturn 1",
                 "v1 = (v2 add v3)\nreturn 1", "v1 = (v3 add v2)\nreturn 1", "v2 = (v2 add v3)\nreturn 1"]
        programs = [read_program("width 2\nprocedure main 0\nblock 0\n" + text + "\n") for text in texts]
        programs.append((3,) + programs[0][1:])
        programs.append((2, (("a", 1),)) + programs[0][2:])
        programs.append((2, (("a", 2),)) + programs[0][2:])
        programs.append((2, (), (("f", 0, programs[0][2][0][2]),) + programs[0][2]))
        programs.append((2, (), (("f", 1, programs[0][2][0][2]),) + programs[0][2]))
        house = House(THREE, 1, 9)
        for k, program in enumerate(programs + programs[::-1]):
            self.assertIs(house.change(program), True)
            self.assertEqual(house.run((0,)), run(program, (0,), steps=9))
            self.assertEqual(house.made, min(k + 1, len(programs)))

    def test_houses_do_not_share_anything(self):
        first, second = House(THREE, 2, 9), House(THREE, 2, 9)
        first.report()
        self.assertEqual((first.made, second.made), (1, 0))
        second.change(ONE)
        self.assertEqual(first.report(), "ways 3\nbroken 1\nreturn 2\nunmet 0\n")


if __name__ == "__main__":
    unittest.main()
