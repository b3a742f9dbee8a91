"""Runs of a program with given inputs, and the items that a run may meet."""

from inputways.machine import Machine, Plan


def run(program, inputs, *, steps):
    """Return (writes, end, path) of the run of main with these inputs and at most so many blocks."""
    machine = done(program, inputs, steps)
    return (tuple(machine.writes), machine.end, tuple(machine.path))


def met(program, inputs, *, steps):
    """Return the ascending tuple of the items that a run meets."""
    return met_by(done(program, inputs, steps))


def items_of(program):
    """Return the ascending tuple of the items of a program."""
    plan = Plan(program)
    items = {}
    for procedure, label in plan.blocks:
        items[("block", procedure, label)] = True
        for move in plan.moves(procedure, label):
            for item in move_items(procedure, label, move):
                items[item] = True
    return tuple(sorted(items))


def done(program, inputs, steps):
    """Return the machine of a run that has come to its end."""
    machine = Machine(Plan(program), inputs, steps)
    machine.go()
    return machine


def met_by(machine):
    """Return the ascending tuple of the items that the run of a machine has met."""
    items = {("block", procedure, label): True for procedure, label in machine.path}
    for edge in machine.edges:
        items[edge] = True
    # These ends are items themselves; the others are none.
    if machine.end[0] in ("broken", "deep", "index"):
        items[machine.end] = True
    return tuple(sorted(items))


def move_items(procedure, label, move):
    """Return the list of the items of a move in a block."""
    head = move[0]
    if head == "look":
        return [("index", procedure, label, move[2])]
    if head == "call":
        return [("deep", procedure, label, move[3])]
    if head == "assert":
        return [("broken", move[1])]
    if head in ("go", "if"):
        return [("edge", procedure, label, target) for target in move[1:]]
    return []
