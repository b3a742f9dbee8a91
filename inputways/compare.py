"""Two programs, and whether they are seen alike for all inputs; and the least inputs that meet an item."""

from inputways.bitwords import constant, less_word
from inputways.pool import Pool
from inputways.programs import is_row
from inputways.reach import meets
from inputways.refuter import refutes
from inputways.rows import inputs_of, is_inputs
from inputways.runs import run
from inputways.seen import SeenUnrolling, seen_of, unlike_signs
from inputways.solver import solve
from inputways.unrolling import unroll


def parting_clauses(first, second, inputs, *, steps):
    """Return the clauses that say that the runs of two programs are not seen alike."""
    return named_parting(first, second, inputs, steps)[0]


def named_parting(first, second, inputs, steps):
    """Return these clauses, and the pairs of the name of a bit and its variable."""
    pool = Pool()
    signs = []
    for program in (first, second):
        unrolling = SeenUnrolling(program, inputs, steps, pool)
        unrolling.go()
        signs.append(unrolling.signs())
    return pool.clauses(unlike_signs(pool, signs[0], signs[1]))


def parting(first, second, inputs, *, steps):
    """Return ("apart", inputs at which two programs are not seen alike), or ("alike", a refutation of such ones)."""
    clauses, names = named_parting(first, second, inputs, steps)
    answer, found = solve(clauses)
    if answer == "no":
        return ("alike", found)
    return ("apart", inputs_of(found, names, inputs))


def check_parting(first, second, inputs, value, *, steps):
    """Tell whether a plain value is a right answer for two programs."""
    if not is_row(value, 2):
        return False
    if value[0] == "alike":
        return refutes(parting_clauses(first, second, inputs, steps=steps), value[1])
    if value[0] != "apart" or not is_inputs(value[1], inputs, first[0]):
        return False
    return seen(first, value[1], steps) != seen(second, value[1], steps)


def seen(program, row, steps):
    """Return what is seen of the run with some inputs."""
    writes, end, _ = run(program, row, steps=steps)
    return seen_of(writes, end)


def below_clauses(program, item, row, *, steps):
    """Return the clauses that say that inputs are less than a row and their run meets an item."""
    width = program[0]
    unrolling = unroll(program, len(row), steps)
    pool = unrolling.pool
    # The first input counts most, so its bits are the last ones of a word of all bits.
    bits = [bit for word in reversed(unrolling.inputs) for bit in word]
    number = 0
    for x in row:
        number = number << width | x
    less = less_word(pool, bits, constant(pool, number, len(bits)))
    return pool.clauses(pool.both(unrolling.literal(item), less))[0]


def least(program, item, inputs, *, steps):
    """Return the least inputs that meet an item and a refutation of lesser ones; None if none meets it."""
    unrolling = unroll(program, inputs, steps)
    clauses, names = unrolling.pool.clauses(unrolling.literal(item))
    answer, found = solve(clauses)
    if answer == "no":
        return None
    row = inputs_of(least_filling(clauses, names, found), names, inputs)
    return (row, solve(below_clauses(program, item, row, steps=steps))[1])


def least_filling(clauses, names, filling):
    """Return the filling that keeps clauses and has the least inputs at the names, from some filling."""
    known = list(clauses)
    for _, variable in sorted(names, key=lambda pair: (pair[0][0], -pair[0][1])):
        if variable in filling:
            answer, found = solve(known + [(-variable,)])
            if answer == "yes":
                filling = found
        known.append((-variable,) if -variable in filling else (variable,))
    return filling


def check_least(program, item, inputs, value, *, steps):
    """Tell whether a plain value is a pair of the least inputs that meet an item and a refutation of lesser ones."""
    if not is_row(value, 2) or not meets(program, item, inputs, value[0], steps):
        return False
    return refutes(below_clauses(program, item, value[0], steps=steps), value[1])
