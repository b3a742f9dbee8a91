"""The form of claims about a program, and of the expressions that they are made of."""

from inputways.programs import DEEPEST_NESTING, MAIN, ascend, is_between, is_label, is_row, is_variable
from inputways.words import PAIRS, SINGLES, top


class ClaimScope:
    """What the expressions about one procedure may use; is_give tells that they are about its return."""

    def __init__(self, width, params, is_give):
        self.greatest = top(width)
        self.params = params
        self.is_give = is_give


def are_rows(program, value):
    """Tell whether a plain value is a tuple of claims about the beginnings of blocks."""
    if not isinstance(value, tuple):
        return False
    width, _, procedures = program
    for row in value:
        if not is_row(row, 2) or not is_row(row[0], 2):
            return False
        name, label = row[0]
        found = procedure_of(procedures, name)
        if found is None or not is_label(label) or label not in [block[0] for block in found[2]]:
            return False
        if not are_expressions(row[1], ClaimScope(width, found[1], False)):
            return False
    return ascend([row[0] for row in value])


def are_gives(program, value):
    """Tell whether a plain value is a tuple of claims about what procedures return."""
    if not isinstance(value, tuple):
        return False
    width, _, procedures = program
    for row in value:
        if not is_row(row, 2):
            return False
        found = procedure_of(procedures, row[0])
        if found is None or found[0] == MAIN or not are_expressions(row[1], ClaimScope(width, found[1], True)):
            return False
    return ascend([row[0] for row in value])


def procedure_of(procedures, name):
    """Return the procedure with a name, or None if a plain value is the name of none."""
    for row in procedures:
        if row[0] == name:
            return row
    return None


def are_expressions(value, scope):
    """Tell whether a plain value is a tuple of at least one expression."""
    if not isinstance(value, tuple) or len(value) == 0:
        return False
    return all([is_claim(part, scope) for part in value])


def is_claim(value, scope, depth=DEEPEST_NESTING):
    """Tell whether a plain value is an expression for claims that nests at most so deep."""
    if depth == 0:
        return False
    if is_row(value, 1):
        return scope.is_give and value[0] == "gave"
    if is_row(value, 2):
        head, part = value
        if head == "int":
            return is_between(part, 0, scope.greatest)
        if head == "var":
            return not scope.is_give and is_variable(part)
        if head == "was":
            return is_between(part, 0, scope.params - 1)
        return head in SINGLES and is_claim(part, scope, depth - 1)
    if not is_row(value, 3) or value[0] not in PAIRS or not is_claim(value[1], scope, depth - 1):
        return False
    return is_claim(value[2], scope, depth - 1)
