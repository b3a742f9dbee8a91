"""Rows of inputs: tuples of words, and the bits that they are made of, which have the names (k, j)."""

from inputways.programs import is_between, is_row
from inputways.words import top


def is_inputs(value, count, width):
    """Tell whether a plain value is a tuple of so many words."""
    return is_row(value, count) and all([is_between(x, 0, top(width)) for x in value])


def bits_of(row, width):
    """Return the dict of the bits of inputs, by their names."""
    return {(k, j): (x >> j) & 1 for k, x in enumerate(row) for j in range(width)}


def inputs_of(bits, count):
    """Return the tuple of so many inputs that have the bits of a dict, and otherwise 0."""
    row = [0] * count
    for k, j in bits:
        row[k] |= bits[(k, j)] << j
    return tuple(row)
