"""Words that depend on named bits: integers where they are known, and lists of literals of a pool where not."""

from inputways.bitwords import chosen_word, computed, constant, equal_word, is_true, less_word, single
from inputways.machine import Machine
from inputways.pool import NO, YES
from inputways.words import compute, top


class Symbols(Machine):
    """A machine with such words; a class below it says how the run goes on where they tell it."""

    def __init__(self, plan, inputs, steps, pool):
        super().__init__(plan, inputs, steps)
        self.pool = pool

    def spelled(self, x):
        """Return the list of the literals of a word."""
        return spelled_word(self.pool, x, self.plan.width)

    def paired(self, op, x, y):
        """Return the word that an op of two parts gives."""
        if isinstance(x, int) and isinstance(y, int):
            return compute(op, self.plan.width, x, y)
        return computed(self.pool, op, self.spelled(x), self.spelled(y))

    def singled(self, op, x):
        """Return the word that an op of one part gives."""
        if isinstance(x, int):
            return compute(op, self.plan.width, x, 0)
        return single(self.pool, op, x)

    def truth(self, x):
        """Return the literal that a word is not 0."""
        if isinstance(x, int):
            return YES if x != 0 else NO
        return is_true(self.pool, x)

    def below(self, x, size):
        """Return the literal that a word is below the size of an array."""
        if isinstance(x, int):
            return YES if x < size else NO
        if size > top(self.plan.width):
            return YES
        return less_word(self.pool, x, constant(self.pool, size, self.plan.width))

    def read(self, name, x):
        """Return the word of a cell."""
        cells = self.cells[name]
        if isinstance(x, int):
            return cells[x]
        return picked(self.pool, [self.spelled(word) for word in cells], x)

    def store(self, name, x, word):
        """Put a word into a cell."""
        cells = self.cells[name]
        if isinstance(x, int):
            cells[x] = word
            return
        word = self.spelled(word)
        for k, old in enumerate(list(cells)):
            # An index that no word has is never the one that is stored at, but its cell is not known either.
            cells[k] = self.spelled(old)
            if k <= top(self.plan.width):
                here = equal_word(self.pool, x, constant(self.pool, k, self.plan.width))
                cells[k] = chosen_word(self.pool, here, word, cells[k])


def spelled_word(pool, x, width):
    """Return the list of the literals of a word."""
    return constant(pool, x, width) if isinstance(x, int) else x


def input_words(pool, count, width):
    """Return the list of the words of so many inputs, whose bits have the names (k, j)."""
    return [named_word(pool, (k,), width) for k in range(count)]


def named_word(pool, name, width):
    """Return a word whose bits have a name and their number behind it."""
    return [pool.bit(name + (j,)) for j in range(width)]


def picked(pool, words, index):
    """Return the word at an index in a list of words, which has an item for it."""
    for bit in index:
        # The next bit tells which word of each two is the right one; the last one may stand alone.
        pairs = [words[k:k + 2] for k in range(0, len(words), 2)]
        words = [chosen_word(pool, bit, pair[-1], pair[0]) for pair in pairs]
    return words[0]
