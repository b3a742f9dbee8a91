"""Runs that are followed for all inputs at once, and the decisions that they make.

A decision is made where a word that is not known tells how the run goes on. A path is a tuple with 0 for
each decision that goes to its first side, and 1 for each one that goes to its second side.
"""

from inputways.bitwords import chosen_word, computed, constant, equal_word, is_true, less_word, single
from inputways.machine import Machine
from inputways.pool import YES, Pool
from inputways.words import compute, top

# The end of a run that is followed along a path, where one more decision is to be made.
UNDECIDED = ("undecided",)


class Telling(Machine):
    """A run with given inputs that tells the path of its decisions.

    Words are pairs of an integer and whether it is known, which is so if no input took part in making it.
    """

    def __init__(self, plan, inputs, steps):
        super().__init__(plan, [(x, False) for x in inputs], steps)
        self.decided = []

    def plain(self, n):
        """Return the word of a number."""
        return (n, True)

    def paired(self, op, x, y):
        """Return the word that an op of two parts gives."""
        return (compute(op, self.plan.width, x[0], y[0]), x[1] and y[1])

    def singled(self, op, x):
        """Return the word that an op of one part gives."""
        return (compute(op, self.plan.width, x[0], 0), x[1])

    def holds(self, x):
        """Tell whether a word is not 0."""
        return self.decide(x[0] != 0, x[1])

    def inside(self, x, size):
        """Tell whether a word is below the size of an array."""
        return self.decide(x[0] < size, x[1])

    def read(self, name, x):
        """Return the word of a cell."""
        word, known = self.cells[name][x[0]]
        return (word, known and x[1])

    def store(self, name, x, word):
        """Put a word into a cell."""
        if not x[1]:
            self.cells[name] = [(old, False) for old, _ in self.cells[name]]
            word = (word[0], False)
        self.cells[name][x[0]] = word

    def decide(self, first, known):
        """Take note of how a decision goes, if it is one."""
        if not known:
            self.decided.append(0 if first else 1)
        return first


class Following(Machine):
    """A run that is followed along a path for all tuples of so many inputs.

    Words are integers where they are known, and lists of literals of a pool where they are not.
    """

    def __init__(self, plan, count, steps, path):
        self.pool = Pool()
        self.path_to_go = path
        # The literal of each decision, that it goes to its first side, and the condition ahead of it.
        self.decisions = []
        self.conditions = [YES]
        inputs = [[self.pool.bit((k, j)) for j in range(plan.width)] for k in range(count)]
        super().__init__(plan, inputs, steps)

    def spelled(self, x):
        """Return the list of the literals of a word."""
        return constant(self.pool, x, self.plan.width) if isinstance(x, int) else x

    def paired(self, op, x, y):
        """Return the word that an op of two parts gives."""
        if isinstance(x, int) and isinstance(y, int):
            return compute(op, self.plan.width, x, y)
        return computed(self.pool, op, self.spelled(x), self.spelled(y))

    def singled(self, op, x):
        """Return the word that an op of one part gives."""
        if isinstance(x, int):
            return compute(op, self.plan.width, x, 0)
        return single(self.pool, op, x)

    def holds(self, x):
        """Tell whether a word is not 0, as the path says if it is not known."""
        if isinstance(x, int):
            return x != 0
        return self.decide(is_true(self.pool, x))

    def inside(self, x, size):
        """Tell whether a word is below the size of an array, as the path says if it is not known."""
        if isinstance(x, int):
            return x < size
        if size > top(self.plan.width):
            return self.decide(YES)
        return self.decide(less_word(self.pool, x, constant(self.pool, size, self.plan.width)))

    def read(self, name, x):
        """Return the word of a cell."""
        cells = self.cells[name]
        if isinstance(x, int):
            return cells[x]
        return picked(self.pool, [self.spelled(word) for word in cells], x)

    def store(self, name, x, word):
        """Put a word into a cell."""
        cells = self.cells[name]
        if isinstance(x, int):
            cells[x] = word
            return
        word = self.spelled(word)
        for k, old in enumerate(list(cells)):
            # An index that no word has is never the one that is stored at, but its cell is not known either.
            cells[k] = self.spelled(old)
            if k <= top(self.plan.width):
                here = equal_word(self.pool, x, constant(self.pool, k, self.plan.width))
                cells[k] = chosen_word(self.pool, here, word, cells[k])

    def decide(self, literal):
        """Return whether a decision goes to its first side; None if it is behind the path."""
        place = len(self.decisions)
        self.decisions.append(literal)
        if place >= len(self.path_to_go):
            self.end = UNDECIDED
            return None
        self.conditions.append(self.condition(place, self.path_to_go[place]))
        return self.path_to_go[place] == 0

    def condition(self, place, side):
        """Return the literal that decision number place goes to a side, and all ahead of it as on the path."""
        return self.pool.both(self.conditions[place], self.decisions[place] ^ side)


def picked(pool, words, index):
    """Return the word at an index in a list of words, which has an item for it."""
    for bit in index:
        # The next bit tells which word of each two is the right one; the last one may stand alone.
        pairs = [words[k:k + 2] for k in range(0, len(words), 2)]
        words = [chosen_word(pool, bit, pair[-1], pair[0]) for pair in pairs]
    return words[0]
