"""Covers with as few sets as can be, and refutations that fewer do, made from set to set.

Whatever sets are taken: for items T and the first i sets, one of the later sets that have an item of T is taken,
or so many of the first i sets as T needs. This clause, for T, i and a number j of sets, follows by units from those
for i - 1: of T and j if set i is not taken, and of the items of T that it has not and j - 1 if it is. For all
items, all sets and one set more than may be taken it is empty. A search without these clauses can take very long.
"""

from inputways.cover import cover_clauses, item_rows
from inputways.solver import solve, solve_soon

# A refutation of so few clauses is made at once. Otherwise a search finds a shorter one, or none after learning
# so many clauses; then one of so many clauses is better than a search without end.
FEW_CLAUSES = 1000
PATIENCE = 2000
MANY_CLAUSES = 100000


def least_cover(sets):
    """Return numbers of sets, as few as can be, that have all items, and a refutation that fewer have them."""
    chosen = greedy_cover(sets)
    answer, found = decide_cover(sets, len(chosen) - 1)
    while answer == "yes":
        chosen = [k for k in range(len(sets)) if found[k] > 0]
        answer, found = decide_cover(sets, len(chosen) - 1)
    return (chosen, found)


def decide_cover(sets, most):
    """Return what solve returns for the clauses that at most so many sets have all items."""
    if most < 0:
        # Only where there are no items, and so no clauses, are fewer sets looked for than none.
        return ("no", ((),))
    refutation = layered_refutation(sets, most, FEW_CLAUSES)
    if refutation is not None:
        return ("no", refutation)
    clauses = cover_clauses(sets, most)
    found = solve_soon(clauses, PATIENCE)
    if found is not None:
        return found
    refutation = layered_refutation(sets, most, MANY_CLAUSES)
    return solve(clauses) if refutation is None else ("no", refutation)


def greedy_cover(sets):
    """Return a list of the numbers of sets that have together all items of all sets, not always as few as can be."""
    lacking = {item: True for items in sets for item in items}
    chosen = []
    while len(lacking) > 0:
        gains = [len([item for item in items if item in lacking]) for items in sets]
        best = gains.index(max(gains))
        chosen.append(best)
        for item in sets[best]:
            lacking.pop(item, None)
    return chosen


def layered_refutation(sets, most, cap):
    """Return a refutation that so many sets have all items, or None if none of so many clauses is found."""
    for rows in cores_of(item_rows(sets), most):
        layers = Layers(rows, len(sets), most, cap)
        if layers.go():
            return layers.refutation()
    return None


def cores_of(rows, most):
    """Return the list of the lists of items, by the sets that have them, by which a refutation is tried."""
    # Where one of the sets of an item must be taken, an item that all these sets have tells nothing more.
    rows = sorted(sorted({row: True for row in rows}), key=len)
    needed = []
    for row in rows:
        if not any([set(other) & set(row) == set(other) for other in needed]):
            needed.append(row)
    # Where no set has two of some items, each of them needs one; those of near sets make fewer clauses.
    near = sorted(needed, key=lambda row: row[-1] - row[0])
    cores = [apart for apart in (apart_rows(near), apart_rows(needed)) if len(apart) > most]
    return cores + [needed]


def apart_rows(rows):
    """Return a list of rows, the first ones if possible, of which no two have a set in common."""
    taken = {}
    apart = []
    for row in rows:
        if not any([i in taken for i in row]):
            apart.append(row)
            for i in row:
                taken[i] = True
    return apart


class Layers:
    """The clauses for some items, of which each is told by the row of the sets that have it.

    A set of items is a number with a bit for each item, a set of sets one with bit i for set number i.
    """

    def __init__(self, rows, count, allowed, cap):
        self.count = count
        self.allowed = allowed
        # No more clauses than this are made.
        self.cap = cap
        self.rows = [sum([1 << i for i in row]) for row in rows]
        # For each set its items, and the items that it or an earlier one has.
        self.members = [0] * (count + 1)
        for e, row in enumerate(rows):
            for i in row:
                self.members[i] |= 1 << e
        self.begun = [0]
        for i in range(1, count + 1):
            self.begun.append(self.begun[i - 1] | self.members[i])
        self.owned = {}
        # For each set the pairs of items and a number for which there is a clause.
        self.layers = [{} for _ in range(count + 1)]
        self.made = 0

    def go(self):
        """Work out which clauses are needed, and tell whether they are a refutation."""
        if not self.need((1 << len(self.rows)) - 1, self.count, self.allowed + 1):
            return False
        for i in reversed(range(1, self.count + 1)):
            for items, j in list(self.layers[i]):
                rest = items & ~self.members[i]
                if not self.need(items, i - 1, j) or not self.need(rest, i - 1, j - 1):
                    return False
        return True

    def need(self, items, i, j):
        """Take note that a clause is needed, and tell whether it holds, as far as is known."""
        if j == 0 or items & ~self.begun[i] != 0:
            # Nothing is to be shown, or the clause of an item that only later sets have shows it.
            return True
        if items == 0 or self.made >= self.cap:
            return False
        # Sets that have none of the items make no difference.
        near = self.owners(items) & ((1 << (i + 1)) - 1)
        layer = self.layers[near.bit_length() - 1]
        if (items, j) not in layer:
            layer[(items, j)] = True
            self.made += 1
        return True

    def owners(self, items):
        """Return the sets that have one of some items."""
        if items not in self.owned:
            total = 0
            for e, row in enumerate(self.rows):
                if (items >> e) & 1 == 1:
                    total |= row
            self.owned[items] = total
        return self.owned[items]

    def refutation(self):
        """Return the tuple of all clauses."""
        clauses = []
        for i in range(1, self.count + 1):
            clauses.extend([self.clause(items, i, j) for items, j in self.layers[i]])
        return tuple(clauses)

    def clause(self, items, i, j):
        """Return a clause for some items, the first i sets and a number j of them."""
        owners = self.owners(items)
        clause = [later for later in range(i + 1, self.count + 1) if (owners >> later) & 1 == 1]
        if j <= self.allowed:
            clause.append(self.count + (i - 1) * self.allowed + j)
        return tuple(clause)
