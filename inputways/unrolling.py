"""All runs of a program at once, for all inputs: the literals of what they meet and of how they end."""

from inputways.bundles import Bundle
from inputways.machine import MOST_OPEN, Plan
from inputways.pool import NO, YES, Pool
from inputways.programs import MAIN
from inputways.symbols import input_words

# These ends are items themselves.
ITEM_ENDS = ("broken", "deep", "index")
END_WORDS = ("broken", "deep", "index", "none", "return")


def unroll(program, inputs, steps):
    """Return the unrolling of a program for so many inputs and steps."""
    unrolling = Unrolling(program, inputs, steps, Pool())
    unrolling.go()
    return unrolling


class Unrolling:
    """The runs for all tuples of so many words, as bundles, from block to block."""

    def __init__(self, program, inputs, steps, pool):
        self.plan = Plan(program)
        self.pool = pool
        self.steps = steps
        self.inputs = input_words(pool, inputs, self.plan.width)
        self.begun = 0
        # The bundles that begin a block at the next step, by their points.
        self.beginning = {}
        # For each number of open procedures, those that go on behind a call, by their points.
        self.returning = [{} for _ in range(MOST_OPEN)]
        # For each item, and for each word of ends, the literals of the bundles that have met it.
        self.met = {}
        self.ended = {word: [] for word in END_WORDS}
        self.item_literals = {}
        self.end_literals = {}
        # For each item, literals of which one is 1 just where its literal is.
        self.item_parts = {}

    def literal(self, item):
        """Return the literal of the inputs whose runs meet an item."""
        return self.item_literals.get(item, NO)

    def parts_of(self, item):
        """Return a list of literals of which one is 1 just where the literal of an item is."""
        return self.item_parts.get(item, [])

    def end_literal(self, word):
        """Return the literal of the inputs whose runs end by an end that begins with a word."""
        return self.end_literals[word]

    def go(self):
        """Go through all runs, and work out the literals."""
        Bundle(self, YES).begin_procedure("", MAIN, [])
        while len(self.beginning) > 0:
            bundles = list(self.beginning.values())
            self.beginning = {}
            self.begun += 1
            for bundle in bundles:
                frame = bundle.frames[-1]
                self.note_item(("block", frame.procedure, frame.label), bundle.live)
                bundle.go_on()
            self.go_on_behind_calls()
        for item in self.met:
            self.item_parts[item] = self.pool.joined(self.met[item])
            self.item_literals[item] = self.pool.any_of(self.item_parts[item])
        for word in END_WORDS:
            self.end_literals[word] = self.pool.any_of(self.pool.joined(self.ended[word]))

    def go_on_behind_calls(self):
        """Go on with the bundles whose procedures have ended."""
        # Behind a call fewer procedures are open, so all bundles have come to the point when its turn is.
        for depth in reversed(range(MOST_OPEN)):
            bundles = list(self.returning[depth].values())
            self.returning[depth] = {}
            for bundle in bundles:
                bundle.go_on()

    def note_item(self, item, live):
        """Take note that the runs for some inputs meet an item."""
        self.met.setdefault(item, []).append(live)

    def note_end(self, end, live):
        """Take note that the runs for some inputs end."""
        if live != NO:
            self.ended[end[0]].append(live)
            if end[0] in ITEM_ENDS:
                self.note_item(end, live)

    def note_edge(self, edge, live):
        """Take note that the runs for some inputs lead from block to block, if there is a step left."""
        if live != NO and self.begun < self.steps:
            self.note_item(edge, live)

    def note_write(self, bundle, word):
        """Take note of a word that a bundle writes; what is written makes no difference here."""

    def note_beginning(self, bundle):
        """Let a bundle begin a block at the next step, or end it where no step is left."""
        if self.begun >= self.steps:
            self.note_end(("none",), bundle.live)
        else:
            join(self.beginning, bundle)

    def note_return(self, bundle):
        """Let a bundle go on behind a call when all others have come there."""
        join(self.returning[len(bundle.frames)], bundle)


def join(waiting, bundle):
    """Put a bundle to those that wait, as one with a bundle that waits at the same point."""
    point = bundle.point()
    if bundle.live == NO:
        return
    if point in waiting:
        waiting[point].absorb(bundle)
    else:
        waiting[point] = bundle
        bundle.wait()
