"""The tests of inputways.runs: promises [4.1] to [4.3], and of [0.2] and [0.3] what concerns them."""

import copy
import itertools
import unittest

from chance import Maker
from inputways.programs import program_faults
from inputways.runs import run
from inputways.words import PAIRS, SINGLES, compute
from plain_runs import PlainRun
from samples import nested, nested_left, nested_right

ZERO, ONE = ("int", 0), ("int", 1)
STOP = ("return", ("int", 7))


def var(v):
    return ("var", v)


def main(*blocks, width=8, arrays=(("cells", 3),), helpers=()):
    """A program whose main has these blocks, ahead of helpers."""
    program = (width, arrays, tuple(sorted(helpers + (("main", 0, blocks),))))
    assert program_faults(program) == [], program_faults(program)
    return program


def body(*items, end=STOP, **more):
    """A program of one block."""
    return main((0, items, end), **more)


def writes(program, inputs=(), steps=60):
    """What a run writes that ends by a return of 7."""
    found = run(program, inputs, steps=steps)
    assert found[1] == ("return", 7), found
    return found[0]


class StatementTest(unittest.TestCase):

    def test_put_writes_words_in_order(self):
        self.assertEqual(run(body(("put", ("int", 5)), ("put", ZERO), ("put", ("int", 255))), (), steps=1),
                         ((5, 0, 255), ("return", 7), (("main", 0),)))

    def test_all_variables_are_0_at_first(self):
        program = body(*[("put", var(v)) for v in range(40)])
        self.assertEqual(writes(program), (0,) * 40)

    def test_set_gives_a_variable_a_word(self):
        program = body(("set", 39, ("int", 5)), ("set", 0, ("add", var(39), var(39))), ("put", var(0)), ("put", var(39)))
        self.assertEqual(writes(program), (10, 5))

    def test_each_op(self):
        for op in PAIRS:
            for x, y in ((3, 2), (2, 3), (5, 5), (255, 1), (1, 9)):
                self.assertEqual(writes(body(("put", (op, ("int", x), ("int", y))))), (compute(op, 8, x, y),), (op, x, y))
        for op in SINGLES:
            for x in (0, 1, 200):
                self.assertEqual(writes(body(("put", (op, ("int", x))))), (compute(op, 8, x, 0),), (op, x))

    def test_the_width_counts(self):
        for width in range(2, 17):
            program = main((0, (("put", ("not", ZERO)), ("put", ("add", ("neg", ONE), ("int", 2)))), ("return", ONE)),
                           width=width)
            self.assertEqual(run(program, (), steps=1)[0], (2 ** width - 1, 1))

    def test_take_with_fewer_and_more_inputs(self):
        program = body(("set", 1, ("int", 9)), ("take", 0), ("take", 1), ("take", 2),
                       ("put", var(0)), ("put", var(1)), ("put", var(2)))
        self.assertEqual(writes(program, ()), (0, 0, 0))
        self.assertEqual(writes(program, (4,)), (4, 0, 0))
        self.assertEqual(writes(program, (4, 5)), (4, 5, 0))
        self.assertEqual(writes(program, (4, 5, 6)), (4, 5, 6))
        self.assertEqual(writes(program, (4, 5, 6, 7, 8, 9, 10)), (4, 5, 6))

    def test_inputs_are_taken_in_the_order_of_the_run(self):
        helper = ("helper", 0, ((0, (("take", 0),), ("return", var(0))),))
        program = body(("take", 0), ("call", 1, "helper", ()), ("take", 2), ("put", var(0)), ("put", var(1)),
                       ("put", var(2)), helpers=(helper,))
        self.assertEqual(writes(program, (4, 5, 6)), (4, 5, 6))

    def test_cells_are_0_at_first_and_keep_their_words(self):
        program = body(("put", ("cell", "cells", ("int", 2))), ("store", "cells", ("int", 2), ("int", 9)),
                       ("put", ("cell", "cells", ("int", 2))), ("put", ("cell", "cells", ONE)),
                       ("put", ("cell", "other", ZERO)), arrays=(("cells", 3), ("other", 1)))
        self.assertEqual(writes(program), (0, 9, 0, 0))

    def test_cells_are_those_of_all_procedures(self):
        helper = ("helper", 0, ((0, (("put", ("cell", "cells", ONE)), ("store", "cells", ONE, ("int", 8))),
                                 ("return", ZERO)),))
        program = body(("store", "cells", ONE, ("int", 3)), ("call", 0, "helper", ()), ("put", ("cell", "cells", ONE)),
                       helpers=(helper,))
        self.assertEqual(writes(program), (3, 8))

    def test_assert_goes_on_or_breaks(self):
        program = body(("take", 0), ("put", ONE), ("assert", 42, var(0)), ("put", ("int", 2)), ("assert", 7, var(1)),
                       ("put", ("int", 3)))
        self.assertEqual(run(program, (5,), steps=9), ((1, 2), ("broken", 7), (("main", 0),)))
        self.assertEqual(run(program, (0,), steps=9), ((1,), ("broken", 42), (("main", 0),)))

    def test_a_call_gives_params_and_gets_what_is_returned(self):
        helper = ("helper", 3, ((5, (("put", var(0)), ("put", var(1)), ("put", var(2)), ("put", var(3)),
                                     ("set", 3, ("int", 77))), ("return", ("sub", var(0), var(1)))),))
        program = body(("set", 0, ("int", 50)), ("set", 3, ("int", 33)),
                       ("call", 1, "helper", (("int", 9), ("add", var(0), ONE), var(2))),
                       ("put", var(0)), ("put", var(1)), ("put", var(3)),
                       ("call", 1, "helper", (var(1), var(0), var(3))), ("put", var(1)), helpers=(helper,))
        self.assertEqual(writes(program), (9, 51, 0, 0, 50, 214, 33, 214, 50, 33, 0, 164))

    def test_six_params(self):
        helper = ("helper", 6, ((0, tuple(("put", var(v)) for v in range(7)), ("return", var(5))),))
        words = tuple(("int", k + 1) for k in range(6))
        program = body(("call", 0, "helper", words), ("put", var(0)), helpers=(helper,))
        self.assertEqual(writes(program), (1, 2, 3, 4, 5, 6, 0, 6))

    def test_procedures_that_call_each_other(self):
        count = ("count", 1, ((0, (("put", var(0)),), ("if", var(0), 1, 2)),
                              (1, (("call", 1, "twice", (("sub", var(0), ONE),)),), ("return", ("add", var(1), ONE))),
                              (2, (), ("return", ZERO))))
        twice = ("twice", 1, ((0, (("call", 1, "count", (var(0),)),), ("return", ("add", var(1), var(1)))),))
        program = body(("call", 0, "count", (("int", 3),)), ("put", var(0)), helpers=(count, twice))
        self.assertEqual(run(program, (), steps=60), (
            (3, 2, 1, 0, 7), ("return", 7),
            (("main", 0), ("count", 0), ("count", 1), ("twice", 0), ("count", 0), ("count", 1), ("twice", 0),
             ("count", 0), ("count", 1), ("twice", 0), ("count", 0), ("count", 2))))


class EndTest(unittest.TestCase):

    def test_go_and_if_and_return(self):
        program = main((3, (("take", 0),), ("if", var(0), 8, 5)), (5, (), ("go", 8)), (8, (), ("return", var(0))))
        self.assertEqual(run(program, (9,), steps=9), ((), ("return", 9), (("main", 3), ("main", 8))))
        self.assertEqual(run(program, (0,), steps=9), ((), ("return", 0), (("main", 3), ("main", 5), ("main", 8))))
        self.assertEqual(run(program, (1,), steps=9)[2], (("main", 3), ("main", 8)))

    def test_an_if_with_equal_labels(self):
        program = main((3, (("take", 0),), ("if", var(0), 8, 8)), (8, (), STOP))
        for word in (0, 1):
            self.assertEqual(run(program, (word,), steps=9)[2], (("main", 3), ("main", 8)))

    def test_the_first_block_is_the_entry_whatever_its_label(self):
        program = main((9, (), ("go", 0)), (1, (), STOP), (0, (), ("go", 1)))
        self.assertEqual(run(program, (), steps=9)[2], (("main", 9), ("main", 0), ("main", 1)))

    def test_steps(self):
        program = main((0, (("put", ONE),), ("go", 1)), (1, (("put", ("int", 2)),), ("go", 2)), (2, (), STOP))
        path = (("main", 0), ("main", 1), ("main", 2))
        self.assertEqual(run(program, (), steps=0), ((), ("none",), ()))
        self.assertEqual(run(program, (), steps=1), ((1,), ("none",), path[:1]))
        self.assertEqual(run(program, (), steps=2), ((1, 2), ("none",), path[:2]))
        self.assertEqual(run(program, (), steps=3), ((1, 2), ("return", 7), path))
        self.assertEqual(run(program, (), steps=4), ((1, 2), ("return", 7), path))

    def test_the_block_of_a_call_counts_a_step(self):
        helper = ("helper", 0, ((4, (("put", ONE),), ("return", ONE)),))
        program = body(("call", 0, "helper", ()), ("put", var(0)), helpers=(helper,))
        self.assertEqual(run(program, (), steps=1), ((), ("none",), (("main", 0),)))
        self.assertEqual(run(program, (), steps=2), ((1, 1), ("return", 7), (("main", 0), ("helper", 4))))

    def test_an_end_ahead_of_the_lack_of_steps(self):
        program = main((0, (), ("if", ("cell", "cells", ("int", 3)), 1, 1)), (1, (), STOP))
        self.assertEqual(run(program, (), steps=1), ((), ("index", "main", 0, -1), (("main", 0),)))

    def test_a_round_without_end(self):
        program = main((0, (), ("go", 1)), (1, (("set", 0, ("add", var(0), ONE)), ("put", var(0))), ("go", 1)))
        found = run(program, (), steps=61)
        self.assertEqual(found, (tuple(range(1, 61)), ("none",), (("main", 0),) + (("main", 1),) * 60))


class IndexTest(unittest.TestCase):

    def test_a_read_behind_the_array(self):
        for at, items in enumerate(([], [("put", ONE)], [("put", ONE)] * 2)):
            for word in (0, 2, 3, 255):
                item = ("put", ("cell", "cells", var(0)))
                program = body(*([("take", 0)] + items + [item]))
                expected = ("return", 7) if word < 3 else ("index", "main", 0, at + 1)
                self.assertEqual(run(program, (word,), steps=9)[1], expected)

    def test_a_read_in_each_statement_and_end(self):
        bad = ("cell", "cells", ("int", 3))
        helper = ("helper", 1, ((0, (), STOP),))
        for item in (("set", 0, bad), ("put", bad), ("store", "cells", bad, ONE), ("store", "cells", ONE, bad),
                     ("assert", 1, bad), ("call", 0, "helper", (bad,)), ("put", ("not", bad)), ("put", ("add", bad, ONE)),
                     ("put", ("add", ONE, bad)), ("put", ("cell", "cells", bad))):
            program = body(("put", ONE), item, ("put", ONE), helpers=(helper,))
            self.assertEqual(run(program, (), steps=9), ((1,), ("index", "main", 0, 1), (("main", 0),)), item)
        for end in (("return", bad), ("if", bad, 6, 6)):
            program = main((5, (("put", ONE),), end), (6, (), STOP))
            self.assertEqual(run(program, (), steps=9), ((1,), ("index", "main", 5, -1), (("main", 5),)), end)

    def test_the_place_of_an_index_in_a_called_procedure(self):
        helper = ("helper", 1, ((0, (), ("go", 4)), (4, (("put", ONE), ("put", ("cell", "cells", var(0)))), STOP)))
        program = body(("call", 0, "helper", (("int", 3),)), helpers=(helper,))
        self.assertEqual(run(program, (), steps=9),
                         ((1,), ("index", "helper", 4, 1), (("main", 0), ("helper", 0), ("helper", 4))))

    def test_a_store_behind_the_array(self):
        program = body(("take", 0), ("put", ONE), ("store", "cells", var(0), ONE), ("put", ONE))
        self.assertEqual(run(program, (2,), steps=1)[1], ("return", 7))
        self.assertEqual(run(program, (3,), steps=1), ((1,), ("index", "main", 0, 2), (("main", 0),)))

    def test_a_store_whose_index_and_word_are_both_wrong(self):
        program = body(("put", ONE), ("store", "cells", ("int", 9), ("cell", "other", ONE)), ("put", ONE),
                       arrays=(("cells", 3), ("other", 1)))
        self.assertEqual(run(program, (), steps=1), ((1,), ("index", "main", 0, 1), (("main", 0),)))

    def test_the_word_for_a_store_is_the_one_ahead_of_it(self):
        program = body(("store", "cells", ONE, ("add", ("cell", "cells", ONE), ("int", 4))),
                       ("store", "cells", ONE, ("add", ("cell", "cells", ONE), ("int", 4))),
                       ("store", "cells", ("sub", ("cell", "cells", ONE), ("int", 6)), ("int", 5)),
                       ("put", ("cell", "cells", ONE)), ("put", ("cell", "cells", ("int", 2))))
        self.assertEqual(writes(program), (8, 5))

    def test_no_word_is_behind_an_array_of_more_cells_than_words(self):
        program = main((0, (("put", ("cell", "cells", ONE)), ("store", "cells", ONE, ONE), ("put", ("cell", "cells", ONE))),
                        ("return", ONE)), width=1, arrays=(("cells", 8),))
        self.assertEqual(run(program, (), steps=1), ((0, 1), ("return", 1), (("main", 0),)))

    def test_sizes_1_and_8(self):
        for size in (1, 8):
            program = body(("take", 0), ("put", ("cell", "cells", var(0))), arrays=(("cells", size),))
            self.assertEqual(run(program, (size - 1,), steps=1)[1], ("return", 7))
            self.assertEqual(run(program, (size,), steps=1)[1], ("index", "main", 0, 1))


class DeepTest(unittest.TestCase):

    def deeper(self, argument=("sub", var(0), ONE)):
        """A procedure that calls itself as often as its param says."""
        return ("helper", 1, ((0, (), ("if", var(0), 3, 2)), (2, (), ("return", ("int", 5))),
                              (3, (("put", var(0)), ("call", 1, "helper", (argument,))), ("return", var(1)))))

    def test_twelve_procedures(self):
        program = body(("take", 0), ("call", 0, "helper", (var(0),)), ("put", var(0)), helpers=(self.deeper(),))
        self.assertEqual(run(program, (10,), steps=60)[0], tuple(range(10, 0, -1)) + (5,))
        self.assertEqual(run(program, (10,), steps=60)[1], ("return", 7))
        found = run(program, (11,), steps=60)
        self.assertEqual(found[0], tuple(range(11, 0, -1)))
        self.assertEqual(found[1], ("deep", "helper", 3, 1))
        self.assertEqual(found[2], (("main", 0),) + (("helper", 0), ("helper", 3)) * 11)

    def test_a_call_is_deep_when_its_arguments_are_known(self):
        # The argument reads behind the array where the param is 1, which may be in the twelfth procedure.
        argument = ("sub", var(0), ("cell", "cells", ("equal", var(0), ONE)))
        helper = ("helper", 1, ((0, (("put", ONE), ("call", 1, "helper", (argument,))), STOP),))
        for first, expected in ((11, ("index", "helper", 0, 1)), (12, ("deep", "helper", 0, 1))):
            program = body(("store", "cells", ZERO, ONE), ("call", 0, "helper", (("int", first),)), helpers=(helper,),
                           arrays=(("cells", 1),))
            found = run(program, (), steps=60)
            self.assertEqual(found[1], expected)
            self.assertEqual(len(found[2]), 12)

    def test_procedures_that_have_ended_do_not_count(self):
        helper = ("helper", 0, ((0, (), STOP),))
        program = body(*([("call", 0, "helper", ())] * 40), helpers=(helper,))
        self.assertEqual(run(program, (), steps=41)[1], ("return", 7))

    def test_deep_comes_ahead_of_the_lack_of_steps(self):
        helper = ("helper", 0, ((0, (("call", 0, "helper", ()),), STOP),))
        program = body(("call", 0, "helper", ()), helpers=(helper,))
        self.assertEqual(run(program, (), steps=12)[1], ("deep", "helper", 0, 0))
        self.assertEqual(run(program, (), steps=11)[1], ("none",))


class OrderTest(unittest.TestCase):

    def test_parts_are_done_from_the_left(self):
        # Which of two wrong indexes is met first cannot be seen in one statement, but what follows it can.
        helper = ("helper", 2, ((0, (("put", var(0)), ("put", var(1))), ("return", ("sub", var(0), var(1)))),))
        program = body(("take", 0), ("take", 1), ("call", 2, "helper", (var(0), var(1))), ("put", var(2)),
                       ("put", ("sub", ("shl", var(0), ONE), ("shr", var(1), ONE))), helpers=(helper,))
        self.assertEqual(writes(program, (9, 4)), (9, 4, 5, 16))

    def test_statements_are_done_one_by_one(self):
        program = body(("put", ONE), ("assert", 1, ZERO), ("put", ("cell", "cells", ("int", 9))))
        self.assertEqual(run(program, (), steps=1), ((1,), ("broken", 1), (("main", 0),)))
        program = body(("put", ("cell", "cells", ("int", 9))), ("assert", 1, ZERO))
        self.assertEqual(run(program, (), steps=1)[1], ("index", "main", 0, 0))

    def test_against_runs_by_recursion(self):
        for seed in range(250):
            program = Maker(seed).program()
            for inputs in itertools.product(range(4), repeat=2):
                for steps in (0, 3, 30):
                    self.assertEqual(run(program, inputs, steps=steps), PlainRun(program, inputs, steps).result(),
                                     (seed, inputs, steps))

    def test_against_runs_by_recursion_at_other_widths(self):
        for seed in range(200):
            program = Maker(1000 + seed, width=seed % 16 + 1, depth=4, body=6, blocks=6).program()
            for inputs in ((), (1,), (0, 2 ** (seed % 16 + 1) - 1), (1, 0, 1, 1, 0, 1)):
                self.assertEqual(run(program, inputs, steps=60), PlainRun(program, inputs, 60).result(), (seed, inputs))


class BoundsTest(unittest.TestCase):

    def test_the_greatest_program(self):
        deepest = (nested(20), nested_left(20), nested_right(20))
        block = tuple(("put", deepest[k % 3]) for k in range(40))
        blocks = tuple((k, block, ("go", k + 1 if k < 29 else 1)) for k in range(30))
        program = main(*blocks, width=16)
        found = run(program, (), steps=60)
        self.assertEqual(found, PlainRun(program, (), 60).result())
        self.assertEqual(len(found[0]), 2400)
        self.assertEqual(len(found[2]), 60)

    def test_more_steps_than_the_bound(self):
        program = main((0, (), ("go", 1)), (1, (), ("go", 1)))
        self.assertEqual(len(run(program, (), steps=5000)[2]), 5000)

    def test_nothing_that_is_passed_in_is_changed(self):
        program = Maker(3, width=8).program()
        kept = copy.deepcopy(program)
        inputs = (3, 4, 5)
        run(program, inputs, steps=30)
        self.assertEqual((program, inputs), (kept, (3, 4, 5)))

    def test_runs_leave_nothing_behind(self):
        program = body(("put", ("cell", "cells", ZERO)), ("store", "cells", ZERO, ONE))
        self.assertEqual(run(program, (), steps=1), run(program, (), steps=1))


if __name__ == "__main__":
    unittest.main()
