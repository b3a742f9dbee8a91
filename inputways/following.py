"""Runs that are followed for all inputs at once, and the decisions that they make.

A decision is made where a word that is not known tells how the run goes on. A path is a tuple with 0 for
each decision that goes to its first side, and 1 for each one that goes to its second side.
"""

from inputways.machine import Machine
from inputways.pool import YES, Pool
from inputways.symbols import Symbols, input_words
from inputways.words import compute

# The end of a run that is followed along a path, where one more decision is to be made.
UNDECIDED = ("undecided",)


class Telling(Machine):
    """A run with given inputs that tells the path of its decisions.

    Words are pairs of an integer and whether it is known, which is so if no input took part in making it.
    """

    def __init__(self, plan, inputs, steps):
        super().__init__(plan, [(x, False) for x in inputs], steps)
        self.decided = []

    def plain(self, n):
        """Return the word of a number."""
        return (n, True)

    def paired(self, op, x, y):
        """Return the word that an op of two parts gives."""
        return (compute(op, self.plan.width, x[0], y[0]), x[1] and y[1])

    def singled(self, op, x):
        """Return the word that an op of one part gives."""
        return (compute(op, self.plan.width, x[0], 0), x[1])

    def holds(self, x):
        """Tell whether a word is not 0."""
        return self.decide(x[0] != 0, x[1])

    def inside(self, x, size):
        """Tell whether a word is below the size of an array."""
        return self.decide(x[0] < size, x[1])

    def read(self, name, x):
        """Return the word of a cell."""
        word, known = self.cells[name][x[0]]
        return (word, known and x[1])

    def store(self, name, x, word):
        """Put a word into a cell."""
        if not x[1]:
            self.cells[name] = [(old, False) for old, _ in self.cells[name]]
            word = (word[0], False)
        self.cells[name][x[0]] = word

    def decide(self, first, known):
        """Take note of how a decision goes, if it is one."""
        if not known:
            self.decided.append(0 if first else 1)
        return first


class Following(Symbols):
    """A run that is followed along a path for all tuples of so many inputs."""

    def __init__(self, plan, count, steps, path):
        pool = Pool()
        super().__init__(plan, input_words(pool, count, plan.width), steps, pool)
        self.path_to_go = path
        # The literal of each decision, that it goes to its first side, and the condition ahead of it.
        self.decisions = []
        self.conditions = [YES]

    def holds(self, x):
        """Tell whether a word is not 0, as the path says if it is not known."""
        return x != 0 if isinstance(x, int) else self.decide(self.truth(x))

    def inside(self, x, size):
        """Tell whether a word is below the size of an array, as the path says if it is not known."""
        return x < size if isinstance(x, int) else self.decide(self.below(x, size))

    def decide(self, literal):
        """Return whether a decision goes to its first side; None if it is behind the path."""
        place = len(self.decisions)
        self.decisions.append(literal)
        if place >= len(self.path_to_go):
            self.end = UNDECIDED
            return None
        self.conditions.append(self.condition(place, self.path_to_go[place]))
        return self.path_to_go[place] == 0

    def condition(self, place, side):
        """Return the literal that decision number place goes to a side, and all ahead of it as on the path."""
        return self.pool.both(self.conditions[place], self.decisions[place] ^ side)
