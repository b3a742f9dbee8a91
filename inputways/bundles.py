"""Bundles: all the runs of a program that are at one point at one time, with their words in one.

A bundle goes on through the statements of a block until its runs end, begin a block, or go on behind a call.
"""

from inputways.pool import NO, YES
from inputways.symbols import Symbols

# The end of a bundle that has come to a point where others may join it, or of which no run is left.
HANDED_ON = ("handed on",)


class Bundle(Symbols):
    """Runs of an unrolling; live is the literal of the inputs for which they are in the bundle."""

    def __init__(self, unrolling, live):
        super().__init__(unrolling.plan, unrolling.inputs, unrolling.steps, unrolling.pool)
        self.unrolling = unrolling
        self.live = live
        # Where the bundle waits: the literals of all that have come there.
        self.lives = []
        # For each number of words that may have been written, the literal that so many were.
        self.counts = {0: YES}

    def twin(self, live):
        """Return a bundle at the same point for other inputs."""
        other = Bundle(self.unrolling, live)
        other.taken = self.taken
        other.cells = {name: list(self.cells[name]) for name in self.cells}
        other.frames = [frame.twin() for frame in self.frames]
        other.counts = {n: self.counts[n] for n in self.counts}
        return other

    def point(self):
        """Return what bundles that are at one point have in common."""
        return (self.taken, tuple([(frame.procedure, frame.label, frame.place) for frame in self.frames]))

    def wait(self):
        """Wait for others that come to the same point."""
        self.lives = [self.live]

    def absorb(self, other):
        """Take the runs of a bundle at the same point into this one."""
        c = self.pool.told_apart(other.live, self.live)
        for mine, its in zip(self.frames, other.frames):
            mine.variables = self.blended(c, its.variables, mine.variables)
        for name in self.plan.sizes:
            self.cells[name] = self.blended(c, other.cells[name], self.cells[name])
        numbers = sorted(list(self.counts) + list(other.counts))
        self.counts = {n: self.pool.chosen(c, other.counts.get(n, NO), self.counts.get(n, NO)) for n in numbers}
        self.lives.append(other.live)
        self.live = self.pool.any_of(self.pool.joined(self.lives))

    def blended(self, c, first, second):
        """Return the list of the words of the first list where a literal is 1, otherwise of the second one."""
        return [y if x == y else self.chosen_of(c, x, y) for x, y in zip(first, second)]

    def chosen_of(self, c, x, y):
        """Return the word x where a literal is 1, otherwise y."""
        return [self.pool.chosen(c, a, b) for a, b in zip(self.spelled(x), self.spelled(y))]

    def keep(self, literal, end):
        """Let all runs for which a literal is 0 end."""
        self.unrolling.note_end(end, self.pool.both(self.live, literal ^ 1))
        self.live = self.pool.both(self.live, literal)
        if self.live == NO:
            self.end = HANDED_ON

    def look(self, x, name, at):
        """End the runs for which an index is not below the size of its array."""
        self.keep(self.below(x, self.plan.sizes[name]), self.end_at("index", at))

    def affirm(self, x, k):
        """End the runs for which the word of an assertion is 0."""
        self.keep(self.truth(x), ("broken", k))

    def write(self, word):
        """Write a word."""
        self.unrolling.note_write(self, word)

    def part(self, x, first, second):
        """Lead to the first block where a word is not 0, elsewhere to the second one."""
        literal = self.truth(x)
        if first == second or literal == YES:
            self.lead(first)
        elif literal == NO:
            self.lead(second)
        else:
            other = self.twin(self.pool.both(self.live, literal ^ 1))
            self.live = self.pool.both(self.live, literal)
            self.lead(first)
            other.lead(second)

    def lead(self, label):
        """Go on from the end of a block to another one."""
        frame = self.frames[-1]
        self.unrolling.note_edge(("edge", frame.procedure, frame.label, label), self.live)
        self.begin_block(label)

    def begin_block(self, label):
        """Come to the beginning of a block of the procedure that runs."""
        frame = self.frames[-1]
        frame.label = label
        frame.todo = self.plan.moves(frame.procedure, label)
        frame.place = 0
        self.end = HANDED_ON
        self.unrolling.note_beginning(self)

    def give_back(self, word):
        """End the procedure that runs."""
        super().give_back(word)
        if self.end is None:
            self.end = HANDED_ON
            self.unrolling.note_return(self)

    def go_on(self):
        """Go on from the point where the bundle is."""
        self.end = None
        self.work()
        if self.end != HANDED_ON:
            self.unrolling.note_end(self.end, self.live)
