"""Two programs, and whether they are seen alike for all inputs; and the least inputs that meet an item."""

from inputways.bitwords import constant, less_word
from inputways.cases import CaseSearch, solve_any
from inputways.pool import YES, Pool
from inputways.programs import is_row
from inputways.reach import meets
from inputways.refuter import refutes
from inputways.rows import inputs_of, is_inputs
from inputways.runs import run
from inputways.seen import SeenUnrolling, seen_of, unlike_signs
from inputways.unrolling import unroll


def parting_clauses(first, second, inputs, *, steps):
    """Return the clauses that say that the runs of two programs are not seen alike."""
    pool = Pool()
    return pool.clauses(pool.any_of(parting_parts(pool, first, second, inputs, steps)))[0]


def parting_parts(pool, first, second, inputs, steps):
    """Return the list of the literals that two programs are not seen alike, each for one thing that is seen."""
    signs = []
    for program in (first, second):
        unrolling = SeenUnrolling(program, inputs, steps, pool)
        unrolling.go()
        signs.append(unrolling.signs())
    return unlike_signs(pool, signs[0], signs[1])


def parting(first, second, inputs, *, steps):
    """Return ("apart", inputs at which two programs are not seen alike), or ("alike", a refutation of such ones)."""
    pool = Pool()
    parts = parting_parts(pool, first, second, inputs, steps)
    answer, found = solve_any(pool, pool.any_of(parts), parts)
    return ("alike", found) if answer == "no" else ("apart", inputs_of(found, inputs))


def check_parting(first, second, inputs, value, *, steps):
    """Tell whether a plain value is a right answer for two programs."""
    if not is_row(value, 2):
        return False
    if value[0] == "alike":
        return refutes(parting_clauses(first, second, inputs, steps=steps), value[1])
    if value[0] != "apart" or not is_inputs(value[1], inputs, first[0]):
        return False
    return seen(first, value[1], steps) != seen(second, value[1], steps)


def seen(program, row, steps):
    """Return what is seen of the run with some inputs."""
    writes, end, _ = run(program, row, steps=steps)
    return seen_of(writes, end)


def below_clauses(program, item, row, *, steps):
    """Return the clauses that say that inputs are less than a row and their run meets an item."""
    unrolling = unroll(program, len(row), steps)
    return unrolling.pool.clauses(unrolling.pool.any_of(below_parts(unrolling, item, row)))[0]


def below_parts(unrolling, item, row):
    """Return a list of literals of which one is 1 just where inputs are less than a row and meet an item."""
    pool = unrolling.pool
    width = unrolling.plan.width
    # The first input counts most, so its bits are the last ones of a word of all bits.
    bits = [bit for word in reversed(unrolling.inputs) for bit in word]
    number = 0
    for x in row:
        number = number << width | x
    less = less_word(pool, bits, constant(pool, number, len(bits)))
    return [pool.both(part, less) for part in unrolling.parts_of(item)]


def least(program, item, inputs, *, steps):
    """Return the least inputs that meet an item and a refutation of lesser ones; None if none meets it."""
    unrolling = unroll(program, inputs, steps)
    pool = unrolling.pool
    literal = unrolling.literal(item)
    answer, found = solve_any(pool, literal, unrolling.parts_of(item))
    if answer == "no":
        return None
    row = inputs_of(found, inputs)
    if literal != YES:
        row = least_row(CaseSearch(pool, literal, unrolling.parts_of(item)), row, program[0])
    parts = below_parts(unrolling, item, row)
    return (row, solve_any(pool, pool.any_of(parts), parts)[1])


def least_row(search, row, width):
    """Return the least inputs that a search finds, where a row is some that it can find."""
    for k in range(len(row)):
        for j in reversed(range(width)):
            if (row[k] >> j) & 1 == 1:
                found = search.try_no((k, j))
                if found is not None:
                    row = inputs_of(found, len(row))
            search.fix((k, j), (row[k] >> j) & 1)
    return row


def check_least(program, item, inputs, value, *, steps):
    """Tell whether a plain value is a pair of the least inputs that meet an item and a refutation of lesser ones."""
    if not is_row(value, 2) or not meets(program, item, inputs, value[0], steps):
        return False
    return refutes(below_clauses(program, item, value[0], steps=steps), value[1])
