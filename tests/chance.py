"""Programs made by chance, from a seed, with few variables and labels so that their parts meet."""

import random

from inputways.programs import program_faults
from inputways.words import PAIRS, SINGLES, top


class Maker:
    """Makes a program of a width, with some arrays and helper procedures."""

    def __init__(self, seed, width=2, blocks=4, body=3, depth=2, variables=3, arrays=True, ops=PAIRS):
        self.random = random.Random(seed)
        self.width, self.depth, self.variables, self.body, self.most = width, depth, variables, body, blocks
        self.arrays = (("cells", self.random.randint(1, 4)), ("table", self.random.randint(1, 8))) if arrays else ()
        self.params = {"helper": self.random.randint(0, 2), "other": self.random.randint(0, 2)}
        self.ops = ops

    def program(self):
        names = sorted(list(self.params) + ["main"])
        rows = tuple((name, self.params.get(name, 0), self.blocks(name)) for name in names)
        made = (self.width, self.arrays, rows)
        assert program_faults(made) == [], made
        return made

    def blocks(self, name):
        labels = self.random.sample(range(10), self.random.randint(1, self.most if name == "main" else 2))
        return tuple((label, self.body_of(), self.end_of(labels[1:])) for label in labels)

    def end_of(self, targets):
        if not targets or self.random.random() < 0.2:
            return ("return", self.word(self.depth))
        if self.random.random() < 0.3:
            return ("go", self.random.choice(targets))
        return ("if", self.word(self.depth), self.random.choice(targets), self.random.choice(targets))

    def body_of(self):
        return tuple(self.statement() for _ in range(self.random.randint(0, self.body)))

    def statement(self):
        kind = self.random.choice(("set", "set", "take", "take", "put", "store", "assert", "call"))
        v = self.random.randrange(self.variables)
        if kind == "store" and self.arrays:
            return (kind, self.random.choice(self.arrays)[0], self.word(1), self.word(self.depth))
        if kind == "take":
            return (kind, v)
        if kind == "put":
            return (kind, self.word(self.depth))
        if kind == "assert":
            return (kind, self.random.randrange(3), self.word(self.depth))
        if kind == "call":
            name = self.random.choice(sorted(self.params))
            return (kind, v, name, tuple(self.word(1) for _ in range(self.params[name])))
        return ("set", v, self.word(self.depth))

    def word(self, depth):
        if depth == 0 or self.random.random() < 0.3:
            if self.random.random() < 0.4:
                return ("int", self.random.randint(0, min(top(self.width), 5)))
            return ("var", self.random.randrange(self.variables))
        if self.arrays and self.random.random() < 0.25:
            return ("cell", self.random.choice(self.arrays)[0], self.word(depth - 1))
        if self.random.random() < 0.2:
            return (self.random.choice(SINGLES), self.word(depth - 1))
        return (self.random.choice(self.ops), self.word(depth - 1), self.word(depth - 1))
