"""The tests of inputways.text: promises [2.5] and [2.6], and of [0.2] and [0.3] what concerns them."""

import unittest

from chance import Maker
from inputways.errors import TextError, WaysError
from inputways.programs import program_faults
from inputways.text import read_program, show_program
from inputways.words import PAIRS, SINGLES
from samples import nested, nested_cells, nested_left, nested_right, with_body, with_end

WHOLE = (8, (("a", 3), ("b_2", 8)), (
    ("f", 2, ((7, (("put", ("var", 0)),), ("return", ("sub", ("var", 0), ("var", 1)))),)),
    ("g", 0, ((0, (), ("return", ("int", 0))),)),
    ("main", 0, (
        (0, (("set", 0, ("int", 255)), ("take", 39), ("put", ("cell", "a", ("var", 0))),
             ("store", "b_2", ("int", 1), ("not", ("var", 2))), ("assert", 99, ("less", ("var", 0), ("int", 3))),
             ("call", 3, "f", (("int", 1), ("neg", ("cell", "a", ("int", 0))))), ("call", 4, "g", ())),
         ("go", 999)),
        (999, (), ("if", ("equal", ("var", 3), ("add", ("int", 1), ("var", 4))), 1, 2)),
        (1, (), ("return", ("var", 4))),
        (2, (("put", ("int", 0)),), ("go", 1)),
    )),
))
TEXT = """width 8
array a 3
array b_2 8
procedure f 2
block 7
  put v0
  return (v0 sub v1)
procedure g 0
block 0
  return 0
procedure main 0
block 0
  v0 = 255
  v39 = take
  put a[v0]
  b_2[1] = not(v2)
  assert 99 (v0 less 3)
  v3 = f(1, neg(a[0]))
  v4 = g()
  go 999
block 999
  if (v3 equal (1 add v4)) 1 2
block 1
  return v4
block 2
  put 0
  go 1
"""

# What stands ahead of a statement in the texts below, so that it is on line 6.
AHEAD = "width 8\narray a 3\n\nprocedure main 0\nblock 0\n"
ONE = ("int", 1)


def statement(line, behind="  return 0\n"):
    """The statement or end that is read from a line of a block."""
    body, end = read_program(AHEAD + line + "\n" + behind)[2][0][2][0][1:]
    return body[0] if body else end


def deep_text(value):
    """The text of an expression, as show_program shows it."""
    lines = show_program(with_body(("put", value))).split("\n")
    return [line for line in lines if line.startswith("  put ")][0][6:]


class ShowTest(unittest.TestCase):

    def test_a_whole_program(self):
        self.assertEqual(program_faults(WHOLE), [])
        self.assertEqual(show_program(WHOLE), TEXT)

    def test_each_op(self):
        for op in PAIRS:
            shown = show_program(with_body(("put", (op, ("var", 1), ("int", 2)))))
            self.assertIn(f"\n  put (v1 {op} 2)\n", shown)
        for op in SINGLES:
            self.assertIn(f"\n  put {op}(v1)\n", show_program(with_body(("put", (op, ("var", 1))))))

    def test_expressions_in_expressions(self):
        value = ("mul", ("not", ("cell", "a", ("add", ONE, ("var", 3)))), ("cell", "b_2", ("cell", "a", ONE)))
        self.assertIn("\n  put (not(a[(1 add v3)]) mul b_2[a[1]])\n", show_program(with_body(("put", value))))

    def test_the_least_program(self):
        program = (1, (), (("main", 0, ((999, (), ("return", ONE)),)),))
        self.assertEqual(show_program(program), "width 1\nprocedure main 0\nblock 999\n  return 1\n")

    def test_it_reads_back_what_it_shows(self):
        self.assertEqual(read_program(TEXT), WHOLE)
        for seed in range(200):
            program = Maker(seed, width=seed % 16 + 1, depth=3).program()
            self.assertEqual(read_program(show_program(program)), program, seed)

    def test_the_deepest_nesting_and_the_greatest_numbers(self):
        values = [nested(20), nested_left(20), nested_right(20), nested_cells(20)]
        body = [("put", value) for value in values] + [("store", "cells", values[0], values[1])]
        body += [("assert", 99, values[2]), ("call", 39, "helper", (values[0], values[3])), ("take", 39)]
        program = with_body(*body)
        self.assertEqual(program_faults(program), [])
        self.assertEqual(read_program(show_program(program)), program)
        program = with_end(("if", values[1], 999, 1))
        self.assertEqual(read_program(show_program(program)), program)

    def test_the_bounds(self):
        block = tuple(("set", k % 40, ("add", ("var", k % 40), ONE)) for k in range(40))
        blocks = tuple((k, block, ("go", k % 29 + 1)) for k in range(30))
        arrays = tuple((f"a{k}", 8) for k in range(4))
        helpers = tuple((f"p{k}", 6, blocks) for k in range(7))
        program = (16, arrays, (("main", 0, blocks),) + helpers)
        self.assertEqual(program_faults(program), [])
        self.assertEqual(read_program(show_program(program)), program)


class ReadTest(unittest.TestCase):

    def test_blanks_empty_lines_and_remarks(self):
        text = ("# a remark ahead\n\n   width   8#8\n  array a 3  \narray    b_2   8 # an array\n \nprocedure f 2\n"
                "   block 7\nput v0\nreturn(v0 sub v1)#\nprocedure g 0\nblock 0\nreturn 0\n#\tA remark: \"%!\"\n"
                "   procedure   main 0\nblock 0\nv0=255\n v39   =   take   \nput a [ v0 ]\nb_2[1]=not(v2)\n\n\n"
                "assert 99( v0 less 3 )\nv3=f(1,neg(a[0]))\nv4 = g ( )\ngo 999\nblock 999\n"
                "if(v3 equal(1 add v4))1 2\nblock 1\nreturn v4\nblock 2\nput 0\ngo 1")
        self.assertEqual(read_program(text), WHOLE)

    def test_each_statement_alone(self):
        rows = (
            ("v0 = 0", ("set", 0, ("int", 0))), ("v39 = v39", ("set", 39, ("var", 39))), ("v1 = take", ("take", 1)),
            ("put 255", ("put", ("int", 255))), ("a[2] = 1", ("store", "a", ("int", 2), ONE)),
            ("assert 0 v1", ("assert", 0, ("var", 1))), ("v1 = f()", ("call", 1, "f", ())),
            ("v1 = f(1)", ("call", 1, "f", (ONE,))), ("v1 = f(1, a[1])", ("call", 1, "f", (ONE, ("cell", "a", ONE)))),
            ("v1 = a[1]", ("set", 1, ("cell", "a", ONE))), ("v1 = neg(1)", ("set", 1, ("neg", ONE))),
            ("v1 = not (1)", ("set", 1, ("not", ONE))), ("v1 = (1 or 1)", ("set", 1, ("or", ONE, ONE))),
        )
        for line, expected in rows:
            self.assertEqual(statement(line), expected, line)
        for line, expected in (("go 0", ("go", 0)), ("if 1 0 999", ("if", ONE, 0, 999)), ("return 1", ("return", ONE))):
            self.assertEqual(statement(line, ""), expected, line)

    def test_names_that_only_look_like_others(self):
        for name in ("v", "va", "v1a", "v_1", "puts", "taken", "adder", "goto", "iff", "a" * 20, "x_1", "v0_"):
            self.assertEqual(statement(f"{name}[1] = {name}[1]"), ("store", name, ONE, ("cell", name, ONE)))
            self.assertEqual(statement(f"v1 = {name}(1)"), ("call", 1, name, (ONE,)))

    def test_what_is_wrong_otherwise_is_read(self):
        text = ("width 2\narray b 1\narray a 8\narray a 8\nprocedure z 6\nblock 1\n  v1 = main(1)\n  go 1\n"
                "procedure a 0\nblock 5\n  nowhere[1] = other[1]\n  v2 = missing(1, 2)\n  if 1 2 3\nblock 5\n  go 9\n")
        read = read_program(text)
        self.assertEqual(read, (2, (("b", 1), ("a", 8), ("a", 8)), (
            ("z", 6, ((1, (("call", 1, "main", (ONE,)),), ("go", 1)),)),
            ("a", 0, ((5, (("store", "nowhere", ONE, ("cell", "other", ONE)),
                           ("call", 2, "missing", (ONE, ("int", 2)))), ("if", ONE, 2, 3)),
                      (5, (), ("go", 9)))))))
        self.assertEqual(program_faults(read), [((), "form")])

    def test_widths_and_their_words(self):
        for width in range(1, 17):
            text = f"width {width}\nprocedure main 0\nblock 0\n  put %s\n  return 0\n"
            read = read_program(text % (2 ** width - 1))
            self.assertEqual(read[0], width)
            self.assertEqual(read[2][0][2][0][1], (("put", ("int", 2 ** width - 1)),))
            with self.assertRaises(TextError) as caught:
                read_program(text % 2 ** width)
            self.assertEqual(caught.exception.line, 4)


class WrongTextTest(unittest.TestCase):

    def refused(self, text, line):
        with self.assertRaises(TextError) as caught:
            read_program(text)
        self.assertEqual(caught.exception.line, line, text)
        self.assertIsInstance(caught.exception, WaysError)

    def test_lines_of_a_block_that_are_none(self):
        lines = (
            "v40 = 1", "put v40", "v1 = take 1", "v01 = 1", "x1 = 1", "a1 = take", "11 = 1", "put x1", "put v00", "v = 1", "put v", "v1 1", "v1 =", "= 1", "v1",
            "put 256", "put 01", "put 00", "put 1000000", "put 0000001", "put -1", "put 1 2", "put", "put ()",
            "put (1 add)", "put (add 1)", "put (1 add 2", "put 1 add 2)", "put (1)", "put (1 plus 2)", "put (1 not 2)",
            "put (1 add 2 add 3)", "put add(1, 2)", "put not 1", "put not()", "put not(1, 2)", "put f(1)", "put take",
            "put a", "put a[]", "put a[1", "put a 1]", "put a[1]]", "put put[1]", "put add[1]", "put 1[1]", "put v1[1]",
            "a[1]", "a[1] 2", "a[1] = ", "a[256] = 1", "a = 1", "v1[0] = 1", "v007[0] = 1", "if[0] = 1", "a[1] = take",
            "assert 100 1", "assert 1", "assert v1 1", "assert 01 1", "assert 1 1 1", "assert", "assert -1 1",
            "v1 = f(", "v1 = f(1", "v1 = f(1,)", "v1 = f(,1)", "v1 = f(1 2)", "v1 = f(1, 2", "v1 = f)", "v1 = f",
            "v1 = f()()", "v1 = take()", "v1 = v2(1)", "v1 = put(1)", "v1 = add(1)", "f()", "f(1)", "a[1] = f(1)",
            f"v1 = {'a' * 21}(1)", f"put {'a' * 21}[1]", "v1 = _a(1)", "put _a[1]", "put 1a[1]", "put A[1]", "put aB[1]",
            "go 1000", "go", "go v1", "go 01", "go 1 2", "if 1 2", "if 1 2 3 4", "if 1 1000 2", "if 1 2 1000", "if 1 2 x",
            "if", "if 256 1 2", "return", "return 1 2", "return 256", "return take", "put\t1", "put 1\r", "PUT 1",
            "put 1;", "v1 == 2", "v1 = = 2", "v 1 = 2", "put 1 .", "block 1", "procedure g 0", "array c 1", "width 8",
            "take", "v1 = (take add 1)", "nothing", "go1", "put1", "pu t 1", "put 2_5", "put 1e1", "put 12ab", "?",
            "put v0000001", "put v1000000", "put \u00b2", "put v\u00b2", "put \u0663",
        )
        for line in lines:
            self.refused(AHEAD + line + "\n  put 0\n  return 0\n", 6)
            self.refused(AHEAD + "  put 0 # one\n\n  " + line + "\n  return 0\n", 8)

    def test_expressions_that_nest_too_deep(self):
        for made in (nested, nested_left, nested_right, nested_cells):
            for place in ("put {}", "v1 = {}", "a[{}] = 1", "a[1] = {}", "assert 1 {}", "v1 = f(1, {})"):
                lines = [AHEAD + place.format(deep_text(made(depth))) + "\nreturn 0\n" for depth in (20, 21)]
                read_program(lines[0])
                self.refused(lines[1], 6)
            for place in ("if {} 1 2", "return {}"):
                read_program(AHEAD + place.format(deep_text(made(20))))
                self.refused(AHEAD + place.format(deep_text(made(21))), 6)

    def test_signs_without_end_are_no_endless_work(self):
        for line in ("put " + "(" * 5000, "put " + "not(" * 5000, "put " + "a[" * 5000, "v1 = f(" * 5000,
                     "put " + "not(" * 5000 + "1" + ")" * 5000):
            self.refused(AHEAD + line + "\n  return 0\n", 6)

    def test_lines_outside_of_blocks_that_are_none(self):
        rows = (
            ("width 0\n", 1), ("width 17\n", 1), ("width\n", 1), ("width 8 8\n", 1), ("width x\n", 1), ("8\n", 1),
            ("width 08\n", 1), ("array a 1\nwidth 8\n", 1), ("procedure main 0\n", 1), ("\n# no\n block 0\n", 3),
            ("width 8\nwidth 8\n", 2), ("width 8\narray a 9\n", 2), ("width 8\narray a 0\n", 2), ("width 8\narray a\n", 2),
            ("width 8\narray 1 1\n", 2), ("width 8\narray put 1\n", 2), ("width 8\narray v1 1\n", 2),
            ("width 8\narray add 1\n", 2), (f"width 8\narray {'b' * 21} 1\n", 2), ("width 8\narray a 1 1\n", 2),
            ("width 8\narray a 01\n", 2), ("width 8\nblock 0\n", 2), ("width 8\nput 1\n", 2), ("width 8\ngo 1\n", 2),
            ("width 8\nprocedure main 7\n", 2), ("width 8\nprocedure main\n", 2), ("width 8\nprocedure if 0\n", 2),
            ("width 8\nprocedure not 0\n", 2), ("width 8\nprocedure v12 0\n", 2), ("width 8\nprocedure main 0 0\n", 2),
            ("width 8\nprocedure main 0\nput 1\n", 3), ("width 8\nprocedure main 0\nprocedure a 0\n", 3),
            ("width 8\nprocedure main 0\narray a 1\n", 3), ("width 8\nprocedure main 0\nblock 1000\n", 3),
            ("width 8\nprocedure main 0\nblock\n", 3), ("width 8\nprocedure main 0\nblock 00\n", 3),
            ("width 8\nprocedure main 0\nblock 0 0\n", 3), ("width 8\nprocedure main 0\nblock x\n", 3),
            (AHEAD + "go 1\nput 1\n", 7), (AHEAD + "return 1\n\nreturn 1\n", 8), (AHEAD + "return 1\narray b 1\n", 7),
            (AHEAD + "return 1\nwidth 8\n", 7), (AHEAD + "return 1\ngo 1\n", 7), (AHEAD + "put 1\nblock 1\n", 7),
        )
        for text, line in rows:
            self.refused(text, line)

    def test_the_first_wrong_line_is_told(self):
        self.refused(AHEAD + "put 256\nput 257\n", 6)
        self.refused(AHEAD + "put 256", 6)
        self.refused("width 17", 1)

    def test_a_text_that_stops_too_early(self):
        rows = (("", 1), ("\n", 2), ("\n\n", 3), ("# a remark", 2), (" ", 2), ("width 8\nprocedure main 0", 3),
                ("width 8\nprocedure main 0\n", 3), ("width 8\nprocedure main 0\n\n", 4),
                ("width 8\nprocedure main 0\nblock 0", 4), ("width 8\nprocedure main 0\nblock 0\n", 4),
                (AHEAD + "put 1", 7), (AHEAD + "put 1\n", 7), (AHEAD + "put 1\n  # no end\n", 8),
                (AHEAD + "return 1\nblock 1\n", 8), (AHEAD + "return 1\nprocedure a 0\n", 8))
        for text, line in rows:
            self.refused(text, line)

    def test_each_part_of_a_text_stops_at_its_end(self):
        lines = TEXT.split("\n")[:-1]
        ends = [k for k, line in enumerate(lines) if line.strip().split(" ")[0] in ("go", "if", "return")]
        for k in range(len(lines)):
            for end in ("", "\n"):
                text = "\n".join(lines[:k]) + (end if k else "")
                if k - 1 in ends:
                    read_program(text)
                elif k == 0 or k > 3:
                    self.refused(text, k + 1)


if __name__ == "__main__":
    unittest.main()
