"""Reaching: for an item of a program an input that meets it, or a refutation that there is none."""

from inputways.cases import solve_any
from inputways.programs import is_row
from inputways.refuter import refutes
from inputways.rows import inputs_of, is_inputs
from inputways.runs import met
from inputways.unrolling import unroll


def item_clauses(program, item, inputs, *, steps):
    """Return the clauses that say that the run with so many inputs meets an item."""
    unrolling = unroll(program, inputs, steps)
    return unrolling.pool.clauses(unrolling.literal(item))[0]


def reach(program, item, inputs, *, steps):
    """Return ("met", inputs that meet an item), or ("never", a refutation of its clauses)."""
    unrolling = unroll(program, inputs, steps)
    answer, found = solve_any(unrolling.pool, unrolling.literal(item), unrolling.parts_of(item))
    return ("never", found) if answer == "no" else ("met", inputs_of(found, inputs))


def check_reach(program, item, inputs, value, *, steps):
    """Tell whether a plain value is a right answer for an item."""
    if not is_row(value, 2):
        return False
    if value[0] == "never":
        return refutes(item_clauses(program, item, inputs, steps=steps), value[1])
    return value[0] == "met" and meets(program, item, inputs, value[1], steps)


def meets(program, item, inputs, row, steps):
    """Tell whether a plain value is a tuple of so many words whose run meets an item."""
    return is_inputs(row, inputs, program[0]) and item in met(program, row, steps=steps)
