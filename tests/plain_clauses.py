"""Clauses once more, by trying all fillings and by the definitions, to compare with."""

import itertools


def is_clause(value):
    """Whether a plain value is a clause."""
    if type(value) is not tuple or any(type(x) is not int or x == 0 for x in value):
        return False
    return all(abs(x) < abs(y) for x, y in zip(value, value[1:]))


def variables_of(clauses):
    return sorted({abs(x) for clause in clauses for x in clause})


def is_filling(filling, variables):
    return type(filling) is tuple and is_clause(filling) and [abs(x) for x in filling] == sorted(variables)


def keeps(filling, clauses):
    return all(set(clause) & set(filling) for clause in clauses)


def all_fillings(variables):
    """Each filling of variables."""
    return itertools.product(*[(v, -v) for v in sorted(variables)])


def given(clauses, item):
    """What is left of clauses when an item is given."""
    return [tuple(x for x in clause if x != -item) for clause in clauses if item not in clause]


def follows(clauses, clause):
    """Whether a clause follows by units, as the definition says."""
    left = list(clauses)
    for item in clause:
        left = given(left, -item)
    while () not in left:
        single = [row[0] for row in left if len(row) == 1]
        if not single:
            return False
        left = given(left, single[0])
    return True


def refutes(clauses, value):
    """Whether a value is a refutation, as the definition says."""
    if type(value) is not tuple or not value or value[-1] != () or not all(is_clause(row) for row in value):
        return False
    return all(follows(list(clauses) + list(value[:k]), row) for k, row in enumerate(value))


def some_filling(clauses, items=()):
    """Some items that keep all clauses together with given ones, or None: by units and trials."""
    left = list(clauses)
    for item in items:
        left = given(left, item)
    found = list(items)
    while left:
        if () in left:
            return None
        single = [row[0] for row in left if len(row) == 1]
        if not single:
            item = left[0][0]
            for trial in (item, -item):
                more = some_filling(left, (trial,))
                if more is not None:
                    return tuple(found) + tuple(more)
            return None
        found.append(single[0])
        left = given(left, single[0])
    return tuple(found)
