"""Giving items to clauses, and again and again each item that stands in a clause by itself.

Items are numbered here: variable number k, in the ascending order of the variables, has the items
2 * k and, for its opposite, 2 * k + 1. So the opposite of x is x ^ 1.
"""

# What is known of an item.
FALSE = 0
TRUE = 1
OPEN = 2


def variables_of(clauses):
    """Return the ascending list of the variables of clauses."""
    return sorted({abs(x) for clause in clauses for x in clause})


class Row:
    """A clause of numbered items."""

    def __init__(self, parts):
        self.parts = parts
        # It waits at two of its items: for each of them, link ^ item is the other one.
        self.link = 0
        # What a search knows of a clause that it has learnt: which one it is, by how many choices its items
        # had got false, how many were learnt when it was used last; and whether it is to be dropped.
        self.number = None
        self.choices = 0
        self.last_use = 0
        self.dropped = False


class Units:
    """Clauses, with all that is known of their items.

    A clause of three or more items waits at two of them: as long as these are not false, nothing follows
    from it. When one of them gets false, another item that is not false takes its place.
    """

    def __init__(self, variables):
        self.variables = variables
        self.numbers = {}
        for k, v in enumerate(variables):
            self.numbers[v] = 2 * k
            self.numbers[-v] = 2 * k + 1
        self.state = [OPEN] * (2 * len(variables))
        self.rows = []
        # For each item the clauses that wait at it; those of two items beside the other item.
        self.waiting = [[] for _ in self.state]
        self.pairs = [[] for _ in self.state]
        # For each variable the clause from which its item followed, and how many choices had been made.
        self.causes = [None] * len(variables)
        self.levels = [0] * len(variables)
        self.level = 0
        self.trail = []
        self.done = 0
        # Whether the empty clause has come without any choice.
        self.broken = False

    def enter(self, clause):
        """Add a clause of numbered items; nothing may have been chosen, but all that follows is given later."""
        parts = []
        for x in clause:
            known = self.state[x]
            if known == TRUE:
                return
            if known == OPEN:
                parts.append(x)
        if len(parts) == 0:
            self.broken = True
        elif len(parts) == 1:
            self.give(parts[0], None)
        else:
            self.attach(Row(parts))

    def attach(self, row):
        """Let a clause of two or more items wait at the first two of them."""
        x, y = row.parts[:2]
        row.link = x ^ y
        self.rows.append(row)
        if len(row.parts) == 2:
            self.pairs[x].append((y, row))
            self.pairs[y].append((x, row))
        else:
            self.waiting[x].append(row)
            self.waiting[y].append(row)

    def give(self, x, cause):
        """Make an open item true."""
        self.state[x] = TRUE
        self.state[x ^ 1] = FALSE
        self.causes[x >> 1] = cause
        self.levels[x >> 1] = self.level
        self.trail.append(x)

    def spread(self):
        """Give all items that follow; return a clause of which all items are false, or None if there is none."""
        while self.done < len(self.trail):
            x = self.trail[self.done] ^ 1
            self.done += 1
            found = self.spread_pairs(x)
            if found is None and len(self.waiting[x]) > 0:
                found = self.spread_rows(x)
            if found is not None:
                return found
        return None

    def spread_pairs(self, x):
        """Give what follows from the clauses of two items when x is false."""
        state = self.state
        for other, row in self.pairs[x]:
            if state[other] == OPEN:
                self.give(other, row)
            elif state[other] == FALSE:
                return row
        return None

    def spread_rows(self, x):
        """Give what follows from the clauses that wait at x when it is false."""
        state = self.state
        rows = list(self.waiting[x])
        kept = []
        self.waiting[x] = kept
        found = None
        for row in rows:
            other = row.link ^ x
            if found is not None or state[other] == TRUE:
                kept.append(row)
                continue
            for y in row.parts:
                if state[y] != FALSE and y != other:
                    row.link = other ^ y
                    self.waiting[y].append(row)
                    break
            else:
                kept.append(row)
                if state[other] == OPEN:
                    self.give(other, row)
                else:
                    found = row
        return found

    def take_back(self, count):
        """Forget all that is known but the first so many items."""
        for x in self.trail[count:]:
            self.state[x] = OPEN
            self.state[x ^ 1] = OPEN
        del self.trail[count:]
        self.done = count
