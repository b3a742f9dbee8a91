"""Trees once more, from the runs of all inputs, to compare with."""

import itertools

from plain_runs import PlainRun


def all_inputs(program, count):
    """Each tuple of so many words."""
    return itertools.product(range(2 ** program[0]), repeat=count)


class Unsure(Exception):
    """The runs alone do not tell whether a part is refused."""


class AllRuns:
    """The runs of a program for all tuples of so many words."""

    def __init__(self, program, count, steps):
        self.count, self.greatest = count, 2 ** program[0] - 1
        self.runs = {row: PlainRun(program, row, steps) for row in all_inputs(program, count)}
        self.paths = {tuple(run.decisions) for run in self.runs.values()}
        self.kept = {path[:k] for path in self.paths for k in range(len(path) + 1)}

    def shape(self, path=()):
        """The shape of the tree in which each row that none keep is shut."""
        if path not in self.kept:
            return "shut"
        if path in self.paths:
            return "way"
        return (self.shape(path + (0,)), self.shape(path + (1,)))

    def is_way(self, path, row):
        """Whether inputs are a tuple of words that goes just this way."""
        return type(row) is tuple and all(type(x) is int for x in row) and row in self.runs \
            and tuple(self.runs[row].decisions) == path

    def refusal(self, right, value, path=()):
        """The path of the first part that is refused, where right is a tree whose shut parts are right."""
        if type(value) is tuple and len(value) == 3 and value[0] == "fork":
            if path in self.paths:
                return path
            if path not in self.kept:
                raise Unsure
            for side in (0, 1):
                found = self.refusal(right[1 + side], value[1 + side], path + (side,))
                if found is not None:
                    return found
            return None
        if type(value) is tuple and len(value) == 2 and value[0] == "way":
            return None if self.is_way(path, value[1]) else path
        if type(value) is tuple and len(value) == 2 and value[0] == "shut" and path not in self.kept:
            if value != right:
                raise Unsure
            return None
        return path


def shape(tree):
    """The shape of a tree: a pair for a fork, and the word of a leaf."""
    return (shape(tree[1]), shape(tree[2])) if tree[0] == "fork" else tree[0]


def parts_of(tree, path=()):
    """A list of the path and the part for each part of a tree, in order."""
    rows = [(path, tree)]
    if tree[0] == "fork":
        rows += parts_of(tree[1], path + (0,)) + parts_of(tree[2], path + (1,))
    return rows


def exchanged(tree, path, part):
    """The tree with another part at a path."""
    if not path:
        return part
    parts = list(tree)
    parts[1 + path[0]] = exchanged(tree[1 + path[0]], path[1:], part)
    return tuple(parts)
