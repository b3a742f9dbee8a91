"""Programs and values that several tests use."""

ONE = ("int", 1)
PLAIN_END = ("return", ONE)
ARRAYS = (("cells", 8), ("table", 1))
HELPERS = (("alone", 0, ((0, (), PLAIN_END),)), ("helper", 2, ((7, (), ("return", ("var", 0))),)))


def with_main(blocks, width=8, arrays=ARRAYS, helpers=HELPERS):
    """A program with arrays, two procedures to call, and a main of these blocks."""
    return (width, arrays, helpers + (("main", 0, blocks),))


def with_body(*body, **more):
    """A program whose main is one block with this body."""
    return with_main(((0, tuple(body), PLAIN_END),), **more)


def with_end(end, **more):
    """A program whose main has this end at its first block, and blocks 1 and 999 behind it."""
    return with_main(((0, (), end), (1, (), PLAIN_END), (999, (), PLAIN_END)), **more)


MAIN = ("main", 0, ((0, (), PLAIN_END),))

# The place of block 0 of main in the programs that with_main makes.
FIRST = (len(HELPERS), 0)


def nested(depth, leaf=ONE):
    """An expression that nests so deep, with ops of one part."""
    value = leaf
    for _ in range(depth - 1):
        value = ("not", value)
    return value


def nested_left(depth, op="add"):
    """An expression that nests so deep on its left side."""
    value = ONE
    for _ in range(depth - 1):
        value = (op, value, ("var", 0))
    return value


def nested_right(depth, op="add"):
    """An expression that nests so deep on its right side."""
    value = ONE
    for _ in range(depth - 1):
        value = (op, ("var", 0), value)
    return value


def nested_cells(depth):
    """An expression that nests so deep by cells."""
    value = ONE
    for _ in range(depth - 1):
        value = ("cell", "cells", value)
    return value


# Plain values that are neither an integer, a string nor a tuple, or that only look like one.
ODD_VALUES = (None, True, False, "", "x", "main", -1, 1000, 10 ** 30, (), (0,), [], [0], ("int",), ["int", 1],
              ((),), [[]], (None, None), (True, "x", ()), ("a", "b", "c", "d"), [()])
