"""Clauses, what follows from them by units, and refutations."""

from inputways.units import OPEN, TRUE, Units, variables_of


def is_clause(value):
    """Tell whether a plain value is a clause."""
    if not isinstance(value, tuple):
        return False
    last = 0
    for x in value:
        if not isinstance(x, int) or isinstance(x, bool) or abs(x) <= last:
            return False
        last = abs(x)
    return True


def follows(clauses, clause):
    """Tell whether a clause follows by units from clauses."""
    units = loaded(clauses, [clause])
    return is_forced(units, numbered(units, clause))


def refutes(clauses, value):
    """Tell whether a plain value is a refutation of clauses."""
    if not isinstance(value, tuple) or len(value) == 0 or value[-1] != ():
        return False
    if not all([is_clause(row) for row in value]):
        return False
    units = loaded(clauses, value)
    for row in value:
        items = numbered(units, row)
        if not is_forced(units, items):
            return False
        units.enter(items)
        settle(units)
    return True


def loaded(clauses, rows):
    """Return the units of clauses, with numbers also for the variables of some rows."""
    units = Units(variables_of(list(clauses) + list(rows)))
    for clause in clauses:
        units.enter(numbered(units, clause))
    settle(units)
    return units


def numbered(units, clause):
    """Return the list of the numbered items of a clause."""
    return [units.numbers[x] for x in clause]


def settle(units):
    """Give all that follows without any choice."""
    if not units.broken and units.spread() is not None:
        units.broken = True


def is_forced(units, items):
    """Tell whether the empty clause comes when the opposites of items are given."""
    if units.broken:
        return True
    known = len(units.trail)
    forced = False
    for x in items:
        # An item that is true already is against its opposite; the clause that made it so gets empty.
        if units.state[x] == TRUE:
            forced = True
        elif units.state[x] == OPEN:
            units.give(x ^ 1, None)
    if not forced:
        forced = units.spread() is not None
    units.take_back(known)
    return forced
