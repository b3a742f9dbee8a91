"""Programs made by chance, from a seed, with few variables and labels so that their parts meet."""

import random

from inputways.programs import program_faults
from inputways.words import PAIRS, SINGLES, top


class Maker:
    """Makes a program of a width, with some arrays and helper procedures."""

    def __init__(self, seed, width=2, blocks=4, body=3, depth=2, variables=3, arrays=True, ops=PAIRS):
        self.random = random.Random(seed)
        self.width, self.depth, self.variables, self.body, self.most = width, depth, variables, body, blocks
        self.arrays = (("cells", self.random.randint(1, 4)), ("table", self.random.randint(1, 8))) if arrays else ()
        self.params = {"helper": self.random.randint(0, 2), "other": self.random.randint(0, 2)}
        self.ops = ops

    def program(self):
        names = sorted(list(self.params) + ["main"])
        rows = tuple((name, self.params.get(name, 0), self.blocks(name)) for name in names)
        made = (self.width, self.arrays, rows)
        assert program_faults(made) == [], made
        return made

    def blocks(self, name):
        labels = self.random.sample(range(10), self.random.randint(1, self.most if name == "main" else 2))
        return tuple((label, self.body_of(), self.end_of(labels[1:])) for label in labels)

    def end_of(self, targets):
        if not targets or self.random.random() < 0.2:
            return ("return", self.word(self.depth))
        if self.random.random() < 0.3:
            return ("go", self.random.choice(targets))
        return ("if", self.word(self.depth), self.random.choice(targets), self.random.choice(targets))

    def body_of(self):
        return tuple(self.statement() for _ in range(self.random.randint(0, self.body)))

    def statement(self):
        kind = self.random.choice(("set", "set", "take", "take", "put", "store", "assert", "call"))
        v = self.random.randrange(self.variables)
        if kind == "store" and self.arrays:
            return (kind, self.random.choice(self.arrays)[0], self.word(1), self.word(self.depth))
        if kind == "take":
            return (kind, v)
        if kind == "put":
            return (kind, self.word(self.depth))
        if kind == "assert":
            return (kind, self.random.randrange(3), self.word(self.depth))
        if kind == "call":
            name = self.random.choice(sorted(self.params))
            return (kind, v, name, tuple(self.word(1) for _ in range(self.params[name])))
        return ("set", v, self.word(self.depth))

    def word(self, depth):
        if depth == 0 or self.random.random() < 0.3:
            if self.random.random() < 0.4:
                return ("int", self.random.randint(0, min(top(self.width), 5)))
            return ("var", self.random.randrange(self.variables))
        if self.arrays and self.random.random() < 0.25:
            return ("cell", self.random.choice(self.arrays)[0], self.word(depth - 1))
        if self.random.random() < 0.2:
            return (self.random.choice(SINGLES), self.word(depth - 1))
        return (self.random.choice(self.ops), self.word(depth - 1), self.word(depth - 1))


class TakingMaker(Maker):
    """Makes programs that take a word for each variable first, so that their inputs go many ways."""

    def blocks(self, name):
        first, *rest = super().blocks(name)
        if name == "main":
            first = (first[0], tuple(("take", v) for v in range(self.variables)) + first[1], first[2])
        return (first, *rest)


class ClaimMaker(Maker):
    """Makes claims about a program, too."""

    def claims(self, program, share=0.5, most=2):
        """Claims about some of the blocks and procedures, with a few expressions each."""
        rows, gives = [], []
        for name, count, blocks in program[2]:
            for block in blocks:
                if self.random.random() < share:
                    rows.append(((name, block[0]), self.some_claims(count, False, most)))
            if name != "main" and self.random.random() < share:
                gives.append((name, self.some_claims(count, True, most)))
        return (tuple(sorted(rows)), tuple(sorted(gives)))

    def some_claims(self, params, is_give, most):
        return tuple(self.claim(params, is_give, self.depth) for _ in range(self.random.randint(1, most)))

    def claim(self, params, is_give, depth):
        if depth == 0 or self.random.random() < 0.3:
            return self.random.choice([("int", self.random.randint(0, top(self.width)))] + self.leaves(params, is_give))
        if self.random.random() < 0.2:
            return (self.random.choice(SINGLES), self.claim(params, is_give, depth - 1))
        return (self.random.choice(self.ops), self.claim(params, is_give, depth - 1), self.claim(params, is_give, depth - 1))

    def leaves(self, params, is_give):
        words = [("was", k) for k in range(params)]
        if is_give:
            return words + [("gave",)] * 2
        return words + [("var", v) for v in range(self.variables)]
