"""Blocks that are gone from any beginning that claims allow, and what could go against the claims on the way."""

from inputways.machine import Frame
from inputways.pool import YES, Pool
from inputways.programs import GREATEST_VARIABLE, MAIN
from inputways.symbols import Symbols, named_word
from inputways.words import SINGLES

# The end of a passage that has come to the end of its block.
OVER = ("over",)


class Claims:
    """Claims by what they are about: a block (p, L) or a procedure p, for which they are kept by their numbers."""

    def __init__(self, claims):
        self.rows, self.gives = [{about: dict(enumerate(parts)) for about, parts in half} for half in claims]

    def of_block(self, place):
        """Return the dict of the claims of a block."""
        return self.rows.get(place, {})

    def of_procedure(self, name):
        """Return the dict of the claims about what a procedure returns."""
        return self.gives.get(name, {})

    def pair(self):
        """Return the claims as they are passed in and returned."""
        return (rows_of(self.rows), rows_of(self.gives))


def rows_of(half):
    """Return the tuple of (what they are about, expressions) of the claims of a dict."""
    return tuple([(about, tuple(parts.values())) for about, parts in half.items() if len(parts) > 0])


class Scene:
    """The words that the expressions of claims are made of."""

    def __init__(self, variables, arguments, gave):
        self.variables = variables
        self.arguments = arguments
        self.gave = gave


class Entry:
    """What may not happen: something goes against a claim, or an assertion breaks; happens is the literal for it.

    The claim is told by the dict in which it is kept and its number there; of an assertion both are None.
    """

    def __init__(self, happens, claims, number):
        self.happens = happens
        self.claims = claims
        self.number = number


class Passage(Symbols):
    """A block that is gone; live is the literal that it is still on its way, and that all is as supposed."""

    def __init__(self, plan, claims, place):
        super().__init__(plan, [], 0, Pool())
        self.claims = claims
        self.place = place
        self.live = YES
        self.entries = []
        self.fresh = 0
        # The dicts of the claims that were supposed, and how many claims each of them had.
        self.supposed = []
        self.arguments = self.any_words(plan.params[place[0]])

    def any_words(self, count):
        """Return a list of so many words of which nothing is known."""
        first = self.fresh
        self.fresh += count
        return [named_word(self.pool, (first + k,), self.plan.width) for k in range(count)]

    def forget_cells(self):
        """Let nothing be known of any cell."""
        for name in self.plan.sizes:
            self.cells[name] = self.any_words(self.plan.sizes[name])

    def go(self):
        """Go through the block from any beginning for which its claims hold."""
        name, label = self.place
        is_entry = self.plan.entries[name] == label
        words = entry_words(self.arguments) if is_entry else self.any_words(GREATEST_VARIABLE + 1)
        # All cells are 0 only where the run begins.
        if not is_entry or name != MAIN:
            self.forget_cells()
        frame = Frame(name, None, words)
        frame.label = label
        frame.todo = self.plan.moves(name, label)
        self.frames.append(frame)
        self.suppose(self.claims.of_block(self.place), Scene(words, self.arguments, None))
        self.work()

    def begin_run(self):
        """Look at the claims about the entry of main where all variables are 0."""
        self.oblige(self.claims.of_block(self.place), Scene(entry_words([]), [], None))

    def word(self, value, scene):
        """Return the word of an expression of claims."""
        head = value[0]
        if head == "int":
            return self.plain(value[1])
        if head == "var":
            return scene.variables[value[1]]
        if head == "was":
            return scene.arguments[value[1]]
        if head == "gave":
            return scene.gave
        if head in SINGLES:
            return self.singled(head, self.word(value[1], scene))
        return self.paired(head, self.word(value[1], scene), self.word(value[2], scene))

    def suppose(self, claims, scene):
        """Go on only where claims hold."""
        self.supposed.append((claims, len(claims)))
        for number in claims:
            self.live = self.pool.both(self.live, self.truth(self.word(claims[number], scene)))

    def oblige(self, claims, scene):
        """Make an entry for each of some claims, that it does not hold."""
        for number in claims:
            self.enter(self.truth(self.word(claims[number], scene)), claims, number)

    def enter(self, literal, claims, number):
        """Make an entry that the passage is on its way and a literal is 0."""
        self.entries.append(Entry(self.pool.both(self.live, literal ^ 1), claims, number))

    def take(self):
        """Return the next input, which is any word."""
        return self.any_words(1)[0]

    def write(self, word):
        """Write a word; this makes no difference."""

    def look(self, x, name, at):
        """Go on only where an index is below the size of its array."""
        self.live = self.pool.both(self.live, self.below(x, self.plan.sizes[name]))

    def read(self, name, x):
        """Return the word of a cell."""
        return self.plain(0) if self.is_outside(name, x) else super().read(name, x)

    def store(self, name, x, word):
        """Put a word into a cell, if it is there."""
        if not self.is_outside(name, x):
            super().store(name, x, word)

    def is_outside(self, name, x):
        """Tell whether an index is always too great; then nothing happens any more, but there are entries for it."""
        return isinstance(x, int) and x >= self.plan.sizes[name]

    def affirm(self, x, k):
        """Make an entry for an assertion, and go on only where it is not broken."""
        literal = self.truth(x)
        self.enter(literal, None, None)
        self.live = self.pool.both(self.live, literal)

    def call(self, back, procedure, arguments, at):
        """Make the entries for a call, and go on with any word that the procedure may return."""
        entry = (procedure, self.plan.entries[procedure])
        self.oblige(self.claims.of_block(entry), Scene(entry_words(arguments), arguments, None))
        gave = self.take()
        self.suppose(self.claims.of_procedure(procedure), Scene([], arguments, gave))
        self.forget_cells()
        self.frames[-1].variables[back] = gave

    def part(self, x, first, second):
        """Make the entries for both blocks to which the way leads."""
        live = self.live
        literal = self.truth(x)
        self.live = self.pool.both(live, literal)
        self.lead(first)
        self.live = self.pool.both(live, literal ^ 1)
        self.lead(second)

    def lead(self, label):
        """Make the entries for a block to which the way leads."""
        frame = self.frames[-1]
        claims = self.claims.of_block((frame.procedure, label))
        self.oblige(claims, Scene(frame.variables, self.arguments, None))
        self.end = OVER

    def give_back(self, word):
        """Make the entries for what the procedure returns."""
        name = self.frames[-1].procedure
        self.oblige(self.claims.of_procedure(name), Scene([], self.arguments, word))
        self.end = OVER


def entry_words(arguments):
    """Return the list of the words of the variables where a procedure begins."""
    return arguments + [0] * (GREATEST_VARIABLE + 1 - len(arguments))


def passages_of(plan, claims):
    """Return the list of the passages of a program: that of the run's beginning, and one for each block."""
    first = Passage(plan, claims, (MAIN, plan.entries[MAIN]))
    first.begin_run()
    passages = [first]
    for place in plan.blocks:
        passages.append(passage_of(plan, claims, place))
    return passages


def passage_of(plan, claims, place):
    """Return the passage of a block that has been gone."""
    passage = Passage(plan, claims, place)
    passage.go()
    return passage
