"""Circuits: literals that name bits, which depend on named bits."""

NO = 0
YES = 1


class Pool:
    """Gates, each made of named bits or of earlier gates.

    Gate k is that of the literals 2 * k and, for its opposite, 2 * k + 1; gate 0 is that of NO and YES.
    A gate is a tuple of its kind and of the literals that it is made of: ("both", x, y), ("unlike", x, y),
    ("chosen", c, x, y), ("most", x, y, z) for the bit that most of three have, or ("bit", name).
    """

    def __init__(self):
        self.gates = [("no",)]
        self.literals = {}

    def bit(self, name):
        """Return the literal of a named bit."""
        return self.literal_of(("bit", name))

    def both(self, x, y):
        """Return a literal that is 1 where both are 1."""
        if x > y:
            x, y = y, x
        if x == NO or x == y ^ 1:
            return NO
        if x == YES or x == y:
            return y
        return self.literal_of(both_gate(x, y))

    def either(self, x, y):
        """Return a literal that is 1 where one of two is 1, or both."""
        return self.both(x ^ 1, y ^ 1) ^ 1

    def unlike(self, x, y):
        """Return a literal that is 1 where just one of two is 1."""
        turned = (x ^ y) & 1
        x = x ^ (x & 1)
        y = y ^ (y & 1)
        if x > y:
            x, y = y, x
        if x == y:
            return turned
        if x == NO:
            return y ^ turned
        return self.literal_of(("unlike", x, y)) ^ turned

    def chosen(self, c, x, y):
        """Return a literal with the bit of x where c is 1, otherwise that of y."""
        if c & 1:
            c, x, y = c ^ 1, y, x
        if c == NO or x == y:
            return y
        # Behind c itself its bit is known.
        if x >> 1 == c >> 1:
            x = x ^ c ^ 1
        if y >> 1 == c >> 1:
            y = y ^ c
        if x == y ^ 1:
            return self.unlike(c, y)
        if x == NO:
            return self.both(c ^ 1, y)
        if x == YES:
            return self.either(c, y)
        if y == NO:
            return self.both(c, x)
        if y == YES:
            return self.either(c ^ 1, x)
        turned = x & 1
        return self.literal_of(("chosen", c, x ^ turned, y ^ turned)) ^ turned

    def most(self, x, y, z):
        """Return a literal with the bit that two or three of three have."""
        x, y, z = sorted([x, y, z])
        if x == y or y == z:
            return y
        if x == y ^ 1:
            return z
        if y == z ^ 1:
            return x
        if x == NO:
            return self.both(y, z)
        if x == YES:
            return self.either(y, z)
        turned = x & 1
        return self.literal_of(("most", x ^ turned, y ^ turned, z ^ turned)) ^ turned

    def any_of(self, literals):
        """Return a literal that is 1 where one of some literals is 1, or more of them."""
        total = NO
        for x in literals:
            total = self.either(total, x)
        return total

    def joined(self, literals):
        """Return a list of literals, perhaps fewer than some, of which one is 1 just where one of these is."""
        left = {}
        for x in literals:
            found = self.half_of(x, left)
            while found is not None:
                y, x = found
                del left[y]
                found = self.half_of(x, left)
            left[x] = True
        return list(left)

    def half_of(self, x, others):
        """Return (y, a) for a literal y of others such that x or y is 1 just where a is 1; None if there is none."""
        if x ^ 1 in others:
            return (x ^ 1, YES)
        for a, b in self.splits(x):
            y = self.literals.get(both_gate(a, b ^ 1))
            if y in others:
                return (y, a)
        return None

    def told_apart(self, x, y):
        """Return a literal that is 1 where x is 1 and 0 where y is 1, for literals that are not 1 at once."""
        for a, b in self.splits(x):
            if self.literals.get(both_gate(a, b ^ 1)) == y:
                return b
        return x

    def splits(self, x):
        """Return the list of the pairs (a, b) for which x is made as the literal that is 1 where both are 1."""
        gate = self.gates[x >> 1]
        if x & 1 == 1 or gate[0] != "both":
            return []
        return [(gate[1], gate[2]), (gate[2], gate[1])]

    def literal_of(self, gate):
        """Return the literal of a gate, which is made if there is none yet."""
        if gate not in self.literals:
            self.literals[gate] = 2 * len(self.gates)
            self.gates.append(gate)
        return self.literals[gate]

    def value(self, literal, bits):
        """Return the bit of a literal for a dict from names to bits."""
        return self.computed([literal], bits)[0]

    def values(self, literals, bits):
        """Return the list of the bits of literals for a dict from names to bits."""
        return self.computed(literals, bits)

    def computed(self, literals, bits):
        """Work out the list of the bits of literals for a dict from names to bits."""
        found = {}
        # A gate is made of earlier ones, so their bits are there when they are asked for.
        for k in self.cone(literals, {}):
            found[k] = gate_value(self.gates[k], found, bits)
        return [found[x >> 1] ^ (x & 1) for x in literals]

    def cone(self, literals, seen):
        """Return the ascending list of the gates of which literals are made, but those that were seen, and see them."""
        found = []
        todo = [x >> 1 for x in literals]
        while len(todo) > 0:
            k = todo.pop()
            if k not in seen:
                seen[k] = True
                found.append(k)
                gate = self.gates[k]
                if gate[0] != "bit":
                    todo.extend([x >> 1 for x in gate[1:]])
        return sorted(found)

    def numbers_of(self, literal):
        """Return the dict from the gates of which a literal is made to their variables."""
        return {k: v for v, k in enumerate(self.cone([literal], {}), start=1)}

    def clauses(self, literal):
        """Return the clauses that say that a literal is 1, and the pairs of a name and its variable."""
        if literal == YES:
            return ((), ())
        if literal == NO:
            return (((),), ())
        numbers = self.numbers_of(literal)
        clauses = self.rows_of(numbers, numbers)
        clauses.append((signed(literal, numbers),))
        return (tuple(clauses), tuple(self.names_of(numbers)))

    def rows_of(self, gates, numbers):
        """Return the list of the clauses of some gates, where all gates that they are made of have variables."""
        rows = []
        for k in gates:
            gate = self.gates[k]
            if gate[0] != "bit":
                parts = [signed(x, numbers) for x in gate[1:]]
                rows.extend(gate_clauses(gate[0], numbers[k], parts))
        return rows

    def names_of(self, numbers):
        """Return the list of the pairs of a name and its variable."""
        return [(self.gates[k][1], numbers[k]) for k in numbers if self.gates[k][0] == "bit"]


def both_gate(x, y):
    """Return the gate of the literal that is 1 where both are 1; neither tells anything of the other one."""
    return ("both", min(x, y), max(x, y))


def gate_value(gate, found, bits):
    """Return the bit of a gate, where the bits of all earlier ones are found."""
    kind = gate[0]
    if kind == "bit":
        return bits.get(gate[1], 0)
    parts = [found[x >> 1] ^ (x & 1) for x in gate[1:]]
    if kind == "unlike":
        return parts[0] ^ parts[1]
    if kind == "chosen":
        return parts[1] if parts[0] == 1 else parts[2]
    # What is left are "both" and "most", for which two must be 1, and "no", which has no parts.
    return 1 if sum(parts) >= 2 else 0


def signed(literal, numbers):
    """Return the item of a clause for a literal, where the gates have these numbers as variables."""
    number = numbers[literal >> 1]
    return -number if literal & 1 else number


def gate_clauses(kind, g, parts):
    """Return the list of the clauses that say that g is the bit of a gate of these parts."""
    if kind == "both":
        x, y = parts
        rows = [(x, -g), (y, -g), (-x, -y, g)]
    elif kind == "unlike":
        x, y = parts
        rows = [(x, y, -g), (-x, -y, -g), (-x, y, g), (x, -y, g)]
    elif kind == "chosen":
        c, x, y = parts
        # The last two follow from the others; with them x and y tell the bit where they agree.
        rows = [(-c, -x, g), (-c, x, -g), (c, -y, g), (c, y, -g), (-x, -y, g), (x, y, -g)]
    else:
        x, y, z = parts
        rows = [(-x, -y, g), (-x, -z, g), (-y, -z, g), (x, y, -g), (x, z, -g), (y, z, -g)]
    return [tuple(sorted(row, key=abs)) for row in rows]
