"""Obligations once more: a walk through a block for all words of all that may be any word, to compare with."""

import itertools

from inputways.words import PAIRS, compute


class Stuck(Exception):
    """The walk does not go on."""


def entry_of(program, name):
    """The label of the entry of a procedure."""
    return {row[0]: row[2][0][0] for row in program[2]}[name]


def keys_of(program, claims):
    """A name for each obligation, in order; that of an assertion begins with "assert"."""
    rows, gives = dict(claims[0]), dict(claims[1])
    place = ("main", entry_of(program, "main"))
    keys = [("first", k) for k in range(len(rows.get(place, ())))]
    for name, _, blocks in program[2]:
        for label, body, end in blocks:
            for at, item in enumerate(body):
                if item[0] == "assert":
                    keys.append(("assert", name, label, at))
                elif item[0] == "call":
                    callee = (item[2], entry_of(program, item[2]))
                    keys += [("call", name, label, at, k) for k in range(len(rows.get(callee, ())))]
            if end[0] == "return":
                many = len(gives.get(name, ())) if name != "main" else 0
                keys += [("give", name, label, k) for k in range(many)]
            for side, target in enumerate(end[1:] if end[0] == "go" else end[2:]):
                keys += [("edge", name, label, side, k) for k in range(len(rows.get((name, target), ())))]
    return keys


def goals_of(program, claims):
    """For each obligation the claim that it is about, ("row" or "give", which one, number), or None for an assertion."""
    blocks = {(name, label): (body, end) for name, _, some in program[2] for label, body, end in some}
    goals = []
    for key in keys_of(program, claims):
        if key[0] == "assert":
            goals.append(None)
        elif key[0] == "give":
            goals.append(("give", key[1], key[3]))
        elif key[0] == "first":
            goals.append(("row", ("main", entry_of(program, "main")), key[1]))
        elif key[0] == "call":
            name = blocks[key[1:3]][0][key[3]][2]
            goals.append(("row", (name, entry_of(program, name)), key[4]))
        else:
            end = blocks[key[1:3]][1]
            goals.append(("row", (key[1], end[1:][0] if end[0] == "go" else end[2 + key[3]]), key[4]))
    return goals


def value_of(value, width, variables, arguments, gave=None):
    """The word of an expression of claims."""
    if value[0] == "int":
        return value[1]
    if value[0] == "var":
        return variables.get(value[1], 0)
    if value[0] == "was":
        return arguments[value[1]]
    if value[0] == "gave":
        return gave
    x = value_of(value[1], width, variables, arguments, gave)
    y = value_of(value[2], width, variables, arguments, gave) if value[0] in PAIRS else 0
    return compute(value[0], width, x, y)


def variables_in(value):
    """The variables that stand somewhere in expressions, statements and ends."""
    if isinstance(value, tuple):
        if len(value) == 2 and value[0] == "var":
            return {value[1]}
        return set().union(*[variables_in(part) for part in value])
    return set()


class Walk:
    """One walk through a block, with words for all that may be any word, in the order in which they are needed."""

    def __init__(self, program, claims, place, words):
        self.program, self.place = program, place
        self.width = program[0]
        self.rows, self.gives = dict(claims[0]), dict(claims[1])
        self.words, self.used = words, 0
        self.happens = set()
        # Cells that nobody has read yet have no word.
        self.cells = {}
        self.zero_cells = place == ("main", entry_of(program, "main"))

    def any_word(self):
        self.used += 1
        while self.used > len(self.words):
            self.words.append(0)
        return self.words[self.used - 1]

    def oblige(self, key, claims, variables, arguments, gave=None):
        for k, value in enumerate(claims):
            if value_of(value, self.width, variables, arguments, gave) == 0:
                self.happens.add(key + (k,))

    def suppose(self, claims, variables, arguments, gave=None):
        if any(value_of(value, self.width, variables, arguments, gave) == 0 for value in claims):
            raise Stuck

    def go(self):
        name, label = self.place
        count, blocks = {row[0]: row[1:] for row in self.program[2]}[name]
        body, end = {row[0]: row[1:] for row in blocks}[label]
        arguments = [self.any_word() for _ in range(count)]
        variables = dict(enumerate(arguments))
        claims = self.rows.get(self.place, ())
        if label != blocks[0][0]:
            targets = [self.rows.get((name, target), ()) for target in end[1:] if isinstance(target, int)]
            variables = {v: self.any_word() for v in sorted(variables_in((claims, body, end, tuple(targets))))}
        try:
            self.suppose(claims, variables, arguments)
            for at, item in enumerate(body):
                self.statement(item, variables, (name, label, at), arguments)
            self.at_end(end, variables, arguments)
        except Stuck:
            pass

    def at_end(self, end, variables, arguments):
        name, label = self.place
        if end[0] == "return":
            word = self.word(end[1], variables)
            if name != "main":
                self.oblige(("give", name, label), self.gives.get(name, ()), {}, arguments, word)
            return
        side, target = 0, end[1]
        if end[0] == "if":
            side = 0 if self.word(end[1], variables) != 0 else 1
            target = end[2 + side]
        self.oblige(("edge", name, label, side), self.rows.get((name, target), ()), variables, arguments)

    def statement(self, item, variables, place, arguments):
        if item[0] == "set":
            variables[item[1]] = self.word(item[2], variables)
        elif item[0] == "take":
            variables[item[1]] = self.any_word()
        elif item[0] == "put":
            self.word(item[1], variables)
        elif item[0] == "store":
            index = self.word(item[2], variables)
            word = self.word(item[3], variables)
            self.look(item[1], index)
            self.cells[(item[1], index)] = word
        elif item[0] == "assert":
            if self.word(item[2], variables) == 0:
                self.happens.add(("assert",) + place)
                raise Stuck
        else:
            words = [self.word(part, variables) for part in item[3]]
            entry = (item[2], entry_of(self.program, item[2]))
            self.oblige(("call",) + place, self.rows.get(entry, ()), dict(enumerate(words)), words)
            gave = self.any_word()
            self.suppose(self.gives.get(item[2], ()), {}, words, gave)
            self.cells, self.zero_cells = {}, False
            variables[item[1]] = gave

    def look(self, name, index):
        if index >= dict(self.program[1])[name]:
            raise Stuck

    def word(self, value, variables):
        if value[0] == "int":
            return value[1]
        if value[0] == "var":
            return variables.get(value[1], 0)
        if value[0] == "cell":
            index = self.word(value[2], variables)
            self.look(value[1], index)
            if (value[1], index) not in self.cells:
                self.cells[(value[1], index)] = 0 if self.zero_cells else self.any_word()
            return self.cells[(value[1], index)]
        x = self.word(value[1], variables)
        y = self.word(value[2], variables) if value[0] in PAIRS else 0
        return compute(value[0], self.width, x, y)


class TooMany(Exception):
    """There are too many walks."""


def walks_of(program, claims, place, most=4000):
    """What happens on some walk through a block: by all words, one after the other as an odometer counts."""
    happens, words, many = set(), [], 0
    while True:
        walk = Walk(program, claims, place, words)
        walk.go()
        happens |= walk.happens
        many += 1
        if many > most:
            raise TooMany
        words = words[:walk.used]
        while words and words[-1] == 2 ** program[0] - 1:
            words.pop()
        if not words:
            return happens
        words[-1] += 1


def all_happens(program, claims):
    """For each obligation, in order, whether it happens."""
    happens = set()
    place = ("main", entry_of(program, "main"))
    for k, value in enumerate(dict(claims[0]).get(place, ())):
        if value_of(value, program[0], {}, []) == 0:
            happens.add(("first", k))
    for name, _, blocks in program[2]:
        for block in blocks:
            happens |= walks_of(program, claims, (name, block[0]))
    keys = keys_of(program, claims)
    assert happens <= set(keys), (happens, keys)
    return [key in happens for key in keys]


def parts_of_claims(claims):
    """Each part of claims, from the greatest ones on, with the numbers of the expressions that are left."""
    flat = [(half, about, k) for half in (0, 1) for about, values in claims[half] for k in range(len(values))]
    for size in range(len(flat), -1, -1):
        for left in itertools.combinations(flat, size):
            yield part_of(claims, set(left))


def part_of(claims, left):
    """The part of claims that is left."""
    halves = []
    for half in (0, 1):
        rows = []
        for about, values in claims[half]:
            some = tuple(value for k, value in enumerate(values) if (half, about, k) in left)
            if some:
                rows.append((about, some))
        halves.append(tuple(rows))
    return tuple(halves)


def greatest_part(program, claims):
    """The greatest part of claims in which no obligation but those of assertions happens, by trying; and all such ones."""
    good = []
    for part in parts_of_claims(claims):
        goals = goals_of(program, part)
        if not any(bit for bit, goal in zip(all_happens(program, part), goals) if goal is not None):
            good.append(part)
    return good[0], good
