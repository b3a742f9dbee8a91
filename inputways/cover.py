"""Clauses for covers: so many sets, or fewer, that have together all items of all sets."""


def cover_clauses(sets, most):
    """Return the clauses that say that at most so many of some sets have together all items of all of them."""
    clauses = item_rows(sets)
    for i in range(1, len(sets) + 1):
        clauses.extend(count_rows(i, len(sets), most))
    return tuple(clauses)


def item_rows(sets):
    """Return the list of the clauses that each item is in a set that is taken, ascending by the items."""
    numbers = {}
    for i, items in enumerate(sets, start=1):
        # An item that stands twice in a set counts once.
        for item in {x: True for x in items}:
            numbers.setdefault(item, []).append(i)
    return [tuple(numbers[item]) for item in sorted(numbers)]


def count_rows(i, count, most):
    """Return the list of the clauses that count set number i of so many, if it is taken."""
    if most == 0:
        return [(-i,)]
    # The variables ahead of those that say that at least 1, 2, .. of the sets up to i, or ahead of it, are taken.
    here = count + (i - 1) * most
    ahead = here - most
    rows = [(-i, here + 1)]
    if i > 1:
        rows.extend([(-(ahead + j), here + j) for j in range(1, most + 1)])
        rows.extend([(-i, -(ahead + j - 1), here + j) for j in range(2, most + 1)])
        rows.append((-i, -(ahead + most)))
    return rows
