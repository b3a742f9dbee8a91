"""Blocks as rows of moves: what their statements and their end do, one small move after another.

A move works on a stack of words. ("number", n) and ("var", v) push a word, ("cell", a) puts the
word of a cell in the place of its index, ("pair", op) and ("single", op) put the word that an op
gives in the place of its parts. ("look", a, at, back) looks at an index, the last word (back is 1)
or the one ahead of it (back is 2), for statement number at. ("set", v), ("put",), ("store", a),
("assert", k), ("if", L, M) and ("return",) take their words from the stack, ("call", v, p, at) takes
all of it, the words of the arguments; ("take", v) and ("go", L) need none.
"""

from inputways.words import SINGLES

# The number of an end, where those of the statements of a body are counted from 0.
AT_END = -1


def moves_of(body, end):
    """Return the list of the moves of a block."""
    moves = []
    for at, item in enumerate(body):
        moves.extend(statement_moves(item, at))
    return moves + end_moves(end)


def statement_moves(value, at):
    """Return the list of the moves of statement number at."""
    head = value[0]
    if head == "set":
        return word_moves(value[2], at) + [("set", value[1])]
    if head == "take":
        return [("take", value[1])]
    if head == "put":
        return word_moves(value[1], at) + [("put",)]
    if head == "assert":
        return word_moves(value[2], at) + [("assert", value[1])]
    if head == "store":
        words = word_moves(value[2], at) + word_moves(value[3], at)
        return words + [("look", value[1], at, 2), ("store", value[1])]
    moves = []
    for part in value[3]:
        moves.extend(word_moves(part, at))
    return moves + [("call", value[1], value[2], at)]


def end_moves(value):
    """Return the list of the moves of an end."""
    if value[0] == "go":
        return [("go", value[1])]
    if value[0] == "if":
        return word_moves(value[1], AT_END) + [("if", value[2], value[3])]
    return word_moves(value[1], AT_END) + [("return",)]


def word_moves(value, at):
    """Return the list of the moves that push the word of an expression in statement number at."""
    head = value[0]
    if head == "int":
        return [("number", value[1])]
    if head == "var":
        return [("var", value[1])]
    if head == "cell":
        return word_moves(value[2], at) + [("look", value[1], at, 1), ("cell", value[1])]
    if head in SINGLES:
        return word_moves(value[1], at) + [("single", head)]
    return word_moves(value[1], at) + word_moves(value[2], at) + [("pair", head)]
