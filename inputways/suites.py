"""Suites: as few inputs as can be whose runs meet all that any input meets."""

from inputways.cover import cover_clauses
from inputways.layers import least_cover
from inputways.programs import ascend, is_row
from inputways.refuter import refutes
from inputways.rows import is_inputs
from inputways.runs import met
from inputways.trees import check_tree, explore, ways_of


def suite(program, inputs, *, steps):
    """Return a least suite, a tree, and a refutation that fewer of its ways meet all, as check_suite takes them."""
    tree = explore(program, inputs, steps=steps)
    ways = ways_of(program, inputs, tree, steps=steps)
    sets = tuple([way[2] for way in ways])
    chosen, refutation = least_cover(sets)
    return (tuple(sorted([ways[k][3] for k in chosen])), tree, refutation)


def check_suite(program, inputs, value, *, steps):
    """Tell whether a plain value is a least suite, a tree, and a refutation that fewer of its ways meet all."""
    if not is_row(value, 3):
        return False
    rows, tree, refutation = value
    if not are_rows_of_inputs(rows, inputs, program[0]) or not check_tree(program, inputs, tree, steps=steps):
        return False
    sets = tuple([way[2] for way in ways_of(program, inputs, tree, steps=steps)])
    found = {item: True for row in rows for item in met(program, row, steps=steps)}
    if not all([item in found for items in sets for item in items]):
        return False
    return refutes(cover_clauses(sets, len(rows) - 1), refutation)


def are_rows_of_inputs(value, count, width):
    """Tell whether a plain value is an ascending tuple of at least one tuple of so many words."""
    if not isinstance(value, tuple) or len(value) == 0:
        return False
    return all([is_inputs(row, count, width) for row in value]) and ascend(value)
