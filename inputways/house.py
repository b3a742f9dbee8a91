"""A house that holds a program, and keeps the trees of all programs that it has held."""

from inputways.programs import program_faults
from inputways.runs import items_of
from inputways.text import show_program
from inputways.trees import explore, told_run, ways_of


class House:
    """A program with a number of inputs and of steps; made is the number of trees that were made."""

    def __init__(self, program, inputs, steps):
        self.held = program
        self.inputs = inputs
        self.steps = steps
        self.made = 0
        # A tree, and its ways, for the text of each program with numbers for which an answer was asked for.
        self.kept = {}

    def tree(self):
        """Return the tree of the program."""
        return self.known()[0]

    def change(self, program):
        """Take another program, and tell whether it was taken: one with faults is not."""
        if len(program_faults(program)) > 0:
            return False
        self.held = program
        return True

    def bound(self, inputs, steps):
        """Take other numbers of inputs and of steps."""
        self.inputs = inputs
        self.steps = steps

    def ways(self):
        """Return the list of (end, path, items, inputs) of the ways of the tree."""
        return list(self.known()[1])

    def run(self, inputs):
        """Return (writes, end, path) of the run with some inputs, as the tree tells it."""
        return told_run(self.held, inputs, self.tree(), steps=self.steps)[1:]

    def unmet(self):
        """Return the ascending tuple of the items of the program that no way meets."""
        found = {}
        for way in self.known()[1]:
            for item in way[2]:
                found[item] = True
        return tuple([item for item in items_of(self.held) if item not in found])

    def examples(self, item):
        """Return the ascending tuple of the inputs of the ways that meet an item."""
        return tuple(sorted([way[3] for way in self.known()[1] if item in way[2]]))

    def report(self):
        """Return a text that counts the ways, those of each kind of end, and the items that no way meets."""
        ways = self.known()[1]
        lines = [f"ways {len(ways)}"]
        words = [way[0][0] for way in ways]
        for word in sorted(set(words)):
            lines.append(f"{word} {words.count(word)}")
        lines.append(f"unmet {len(self.unmet())}")
        return "".join([line + "\n" for line in lines])

    def known(self):
        """Return the pair of the tree of the program and the list of its ways; it is made once."""
        # A program nests too deep to be a key itself, but no other one has its text.
        key = (show_program(self.held), self.inputs, self.steps)
        if key not in self.kept:
            tree = explore(self.held, self.inputs, steps=self.steps)
            self.kept[key] = (tree, ways_of(self.held, self.inputs, tree, steps=self.steps))
            self.made += 1
        return self.kept[key]
