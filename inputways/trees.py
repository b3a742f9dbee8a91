"""Trees of all the ways that a program goes: making them, checking them, and what they tell."""

from inputways.following import Following, Telling
from inputways.machine import Machine, Plan
from inputways.pool import YES
from inputways.programs import is_row
from inputways.refuter import refutes
from inputways.rows import bits_of, inputs_of, is_inputs
from inputways.runs import met_by
from inputways.solver import solve


def explore(program, inputs, *, steps):
    """Return the tree of a program for so many inputs, where each row of decisions that none keep is shut."""
    plan = Plan(program)
    leaves = {}
    # Rows of inputs that go a way which is not in the tree yet, and how many of its decisions are in it.
    todo = [((0,) * inputs, 0)]
    while len(todo) > 0:
        row, count = todo.pop()
        path = path_of(plan, row, steps)
        leaves[path] = ("way", row)
        trace = Following(plan, inputs, steps, path)
        trace.go()
        for place in range(count, len(path)):
            side = 1 - path[place]
            clauses, names = trace.pool.clauses(trace.condition(place, side))
            answer, found = solve(clauses)
            if answer == "no":
                leaves[path[:place] + (side,)] = ("shut", found)
            else:
                todo.append((inputs_of(bits_at(found, names), inputs), place + 1))
    return joined(leaves)


def path_of(plan, row, steps):
    """Return the path of the decisions that some inputs make."""
    telling = Telling(plan, row, steps)
    telling.go()
    return tuple(telling.decided)


def bits_at(filling, names):
    """Return the dict from names to the bits that a filling has at their variables."""
    true = {x: True for x in filling}
    return {name: 1 if variable in true else 0 for name, variable in names}


def joined(leaves):
    """Return the tree that has the leaves of a dict from their paths."""
    parts = []
    for path in sorted(leaves):
        parts.append((len(path), leaves[path]))
        # A part is whole when its second side is; then it stands behind a first side of the same length.
        while len(parts) > 1 and parts[-1][0] == parts[-2][0]:
            depth, second = parts.pop()
            first = parts.pop()[1]
            parts.append((depth - 1, ("fork", first, second)))
    return parts[0][1]


def check_tree(program, inputs, value, *, steps):
    """Tell whether a plain value is a tree of a program for so many inputs."""
    return refusal(program, inputs, value, steps=steps) is None


def refusal(program, inputs, value, *, steps):
    """Return the path of the first part of a plain value that is refused as a tree, or None if it is one."""
    plan = Plan(program)
    trace = followed(plan, inputs, steps, (), value)
    todo = [((), value)]
    while len(todo) > 0:
        path, part = todo.pop()
        # All that has been followed since agrees with this path in all decisions but perhaps the last one.
        if not is_shut(part) and trace.path_to_go[:len(path)] != path:
            trace = followed(plan, inputs, steps, path, part)
        if is_fork(part) and len(trace.decisions) > len(path):
            todo.append((path + (1,), part[2]))
            todo.append((path + (0,), part[1]))
        elif not is_right_leaf(trace, path, part):
            return path
    return None


def followed(plan, count, steps, path, part):
    """Return the run that is followed along a path, and on to a leaf of the part of a tree behind it."""
    sides = list(path)
    while is_fork(part):
        # What is shut can be looked at from the other side, so one run serves for both.
        side = 1 if is_shut(part[1]) else 0
        sides.append(side)
        part = part[1 + side]
    trace = Following(plan, count, steps, tuple(sides))
    trace.go()
    return trace


def is_fork(value):
    """Tell whether a plain value has the outline of a fork."""
    return is_row(value, 3) and value[0] == "fork"


def is_shut(value):
    """Tell whether a plain value has the outline of a part that is shut."""
    return is_row(value, 2) and value[0] == "shut"


def is_right_leaf(trace, path, part):
    """Tell whether a plain value is a way or a shut part behind a path."""
    if is_shut(part):
        return refutes(trace.pool.clauses(condition_of(trace, path))[0], part[1])
    if not is_row(part, 2) or part[0] != "way" or not is_inputs(part[1], len(trace.inputs), trace.plan.width):
        return False
    if len(trace.decisions) > len(path):
        return False
    return trace.pool.value(condition_of(trace, path), bits_of(part[1], trace.plan.width)) == 1


def condition_of(trace, path):
    """Return the literal of the condition of a path, whose decisions but the last one were followed."""
    return trace.condition(len(path) - 1, path[-1]) if len(path) > 0 else YES


def ways_of(program, inputs, tree, *, steps):
    """Return the list of (end, path, items, inputs) of the ways of a tree, in order."""
    plan = Plan(program)
    found = []
    for leaf in leaves_of(tree):
        if leaf[0] == "way":
            machine = Machine(plan, leaf[1], steps)
            machine.go()
            found.append((told_end(machine.end), tuple(machine.path), met_by(machine), leaf[1]))
    return found


def told_end(end):
    """Return the end of a way, which does not tell the word that main returns."""
    return ("return",) if end[0] == "return" else end


def leaves_of(tree):
    """Return the list of the leaves of a tree, in order."""
    leaves = []
    todo = [tree]
    while len(todo) > 0:
        part = todo.pop()
        if part[0] == "fork":
            todo.append(part[2])
            todo.append(part[1])
        else:
            leaves.append(part)
    return leaves


def told_run(program, inputs, tree, *, steps):
    """Return (number, writes, end, path) of the way of a tree that some inputs go, or None if there is none."""
    telling = Telling(Plan(program), inputs, steps)
    telling.go()
    number = 0
    part = tree
    for side in telling.decided:
        if part[0] != "fork":
            return None
        if side == 1:
            number += len([leaf for leaf in leaves_of(part[1]) if leaf[0] == "way"])
        part = part[1 + side]
    if part[0] != "way":
        return None
    end = telling.end
    if end[0] == "return":
        end = ("return", end[1][0])
    return (number, tuple([word for word, _ in telling.writes]), end, tuple(telling.path))
