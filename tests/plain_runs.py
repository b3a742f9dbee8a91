"""Runs once more, written by recursion and errors, with the decisions that they make, to compare with."""

from inputways.words import PAIRS, compute


class Ended(Exception):
    """The run has ended."""


class Unknown(int):
    """A word in which an input took part."""


def marked(n, *parts):
    """A word that is made of others, or behind an index."""
    return Unknown(n) if any(isinstance(part, Unknown) for part in parts) else int(n)


class PlainRun:
    """A run of a program: writes, end, path, the items that it meets, and its decisions, 0 for a first side."""

    def __init__(self, program, inputs, steps):
        self.width, arrays, procedures = program
        self.sizes = dict(arrays)
        self.cells = {name: [0] * size for name, size in arrays}
        self.procedures = {name: (count, blocks) for name, count, blocks in procedures}
        self.inputs = [Unknown(x) for x in inputs]
        self.steps = steps
        self.open = []
        self.writes, self.path, self.items, self.decisions = [], [], set(), []
        try:
            self.end = ("return", self.doing("main", []))
        except Ended as ended:
            self.end = ended.args[0]
        if self.end[0] in ("index", "deep", "broken"):
            self.items.add(self.end)

    def result(self):
        return (tuple(self.writes), self.end, tuple(self.path))

    def met(self):
        return tuple(sorted(self.items))

    def doing(self, name, words):
        self.open.append(name)
        blocks = {label: (body, end) for label, body, end in self.procedures[name][1]}
        variables = dict(enumerate(words))
        label, edge = self.procedures[name][1][0][0], None
        while True:
            if len(self.path) == self.steps:
                raise Ended(("none",))
            self.path.append((name, label))
            self.items.add(("block", name, label))
            self.begins(name, label, words, variables)
            if edge:
                self.items.add(edge)
            body, end = blocks[label]
            for at, item in enumerate(body):
                self.statement(item, variables, (name, label, at))
            place = (name, label, -1)
            if end[0] == "return":
                word = self.word(end[1], variables, place)
                self.gives(name, words, word)
                self.open.pop()
                return word
            target = end[1]
            if end[0] == "if":
                word = self.word(end[1], variables, place)
                target = end[2] if self.decided(word, word != 0) else end[3]
            edge = ("edge", name, label, target)
            label = target

    def begins(self, name, label, words, variables):
        """A block begins, of a procedure that was called with these words."""

    def gives(self, name, words, word):
        """A procedure that was called with these words returns a word."""

    def statement(self, item, variables, place):
        if item[0] == "set":
            variables[item[1]] = self.word(item[2], variables, place)
        elif item[0] == "take":
            variables[item[1]] = self.inputs.pop(0) if self.inputs else 0
        elif item[0] == "put":
            self.writes.append(self.word(item[1], variables, place))
        elif item[0] == "store":
            index = self.word(item[2], variables, place)
            word = self.word(item[3], variables, place)
            self.look(item[1], index, place)
            if isinstance(index, Unknown):
                self.cells[item[1]] = [Unknown(old) for old in self.cells[item[1]]]
            self.cells[item[1]][index] = marked(word, word, index)
        elif item[0] == "assert":
            word = self.word(item[2], variables, place)
            if not self.decided(word, word != 0):
                raise Ended(("broken", item[1]))
        else:
            words = [self.word(part, variables, place) for part in item[3]]
            if len(self.open) == 12:
                raise Ended(("deep",) + place)
            variables[item[1]] = self.doing(item[2], words)

    def decided(self, word, first):
        if isinstance(word, Unknown):
            self.decisions.append(0 if first else 1)
        return first

    def look(self, name, index, place):
        if not self.decided(index, index < self.sizes[name]):
            raise Ended(("index",) + place)

    def word(self, value, variables, place):
        if value[0] == "int":
            return value[1]
        if value[0] == "var":
            return variables.get(value[1], 0)
        if value[0] == "cell":
            index = self.word(value[2], variables, place)
            self.look(value[1], index, place)
            return marked(self.cells[value[1]][index], index, self.cells[value[1]][index])
        x = self.word(value[1], variables, place)
        y = self.word(value[2], variables, place) if value[0] in PAIRS else 0
        return marked(compute(value[0], self.width, x, y), x, y)
