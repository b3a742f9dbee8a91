"""What an unrolling has to tell, from the runs of all inputs."""

from inputways.runs import items_of
from plain_runs import PlainRun
from plain_trees import all_inputs

END_WORDS = ("return", "broken", "index", "deep", "none")


def bits_of(program, row):
    """The dict from the names of the bits of inputs to the bits."""
    return {(k, j): (x >> j) & 1 for k, x in enumerate(row) for j in range(program[0])}


def all_runs(program, count, steps):
    """A dict from each tuple of so many words to its run."""
    return {row: PlainRun(program, row, steps) for row in all_inputs(program, count)}


def told(program, unrolling, row, items=None):
    """The items and the words of ends whose literals are yes at some inputs."""
    items = items_of(program) if items is None else items
    literals = [unrolling.literal(item) for item in items] + [unrolling.end_literal(word) for word in END_WORDS]
    found = unrolling.pool.values(literals, bits_of(program, row))
    assert set(found) <= {0, 1}
    met = tuple(item for item, bit in zip(items, found) if bit == 1)
    return met, [word for word, bit in zip(END_WORDS, found[len(items):]) if bit == 1]
