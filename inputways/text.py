"""Programs as texts: one line for each array, procedure, block, statement and end."""

from inputways.errors import TextError
from inputways.programs import DEEPEST_NESTING, DIGITS, GREATEST_ASSERTION, GREATEST_LABEL, GREATEST_SIZE
from inputways.programs import GREATEST_VARIABLE, GREATEST_WIDTH, LETTERS, MOST_PARAMS, is_made_of, is_name
from inputways.words import PAIRS, SINGLES, top

MOST_DIGITS = 6


def show_program(program):
    """Return the text of a program."""
    width, arrays, procedures = program
    lines = [f"width {width}"]
    lines.extend([f"array {name} {size}" for name, size in arrays])
    for name, count, blocks in procedures:
        lines.append(f"procedure {name} {count}")
        for label, body, end in blocks:
            lines.append(f"block {label}")
            lines.extend([f"  {shown_statement(item)}" for item in body])
            lines.append(f"  {shown_end(end)}")
    return "".join([f"{line}\n" for line in lines])


def shown_statement(value):
    """Return the text of a statement."""
    head = value[0]
    if head == "set":
        return f"v{value[1]} = {shown(value[2])}"
    if head == "take":
        return f"v{value[1]} = take"
    if head == "put":
        return f"put {shown(value[1])}"
    if head == "store":
        return f"{value[1]}[{shown(value[2])}] = {shown(value[3])}"
    if head == "assert":
        return f"assert {value[1]} {shown(value[2])}"
    parts = ", ".join([shown(part) for part in value[3]])
    return f"v{value[1]} = {value[2]}({parts})"


def shown_end(value):
    """Return the text of an end."""
    if value[0] == "go":
        return f"go {value[1]}"
    if value[0] == "if":
        return f"if {shown(value[1])} {value[2]} {value[3]}"
    return f"return {shown(value[1])}"


def shown(value):
    """Return the text of an expression."""
    head = value[0]
    if head == "int":
        return f"{value[1]}"
    if head == "var":
        return f"v{value[1]}"
    if head == "cell":
        return f"{value[1]}[{shown(value[2])}]"
    if head in SINGLES:
        return f"{head}({shown(value[1])})"
    return f"({shown(value[1])} {head} {shown(value[2])})"


class Line:
    """The tokens of a line, which are taken from the left."""

    def __init__(self, number, tokens):
        self.number = number
        self.tokens = tokens
        self.at = 0

    def peek(self, ahead=0):
        """Return a token that has not been taken, or an empty string behind the last one."""
        place = self.at + ahead
        return self.tokens[place] if place < len(self.tokens) else ""

    def take(self):
        """Take the next token and return it."""
        token = self.peek()
        self.at += 1
        return token

    def expect(self, token):
        """Take the next token, which must be this one."""
        if self.take() != token:
            raise TextError(self.number)

    def integer(self, low, high):
        """Take a number from low to high and return it."""
        number = number_of(self.take())
        if number is None or not low <= number <= high:
            raise TextError(self.number)
        return number

    def name(self):
        """Take a name and return it."""
        token = self.take()
        if not is_name(token):
            raise TextError(self.number)
        return token

    def variable(self):
        """Take a variable and return its number."""
        number = variable_of(self.take())
        if number is None:
            raise TextError(self.number)
        return number

    def close(self):
        """Make sure that all tokens have been taken."""
        if self.at < len(self.tokens):
            raise TextError(self.number)


class Draft:
    """The part of a program that has been read so far."""

    def __init__(self):
        self.width = None
        self.greatest = 0
        self.arrays = []
        # Rows of name, params and the list of the blocks that have ended.
        self.procedures = []
        self.label = None
        # The statements of the block that has no end yet; None where no block is open.
        self.body = None

    def is_whole(self):
        """Tell whether a text may stop here."""
        return self.width is not None and self.body is None and not self.lacks_block()

    def lacks_block(self):
        """Tell whether the last procedure has no block that has ended."""
        return len(self.procedures) > 0 and len(self.procedures[-1][2]) == 0

    def program(self):
        """Return the program that has been read."""
        procedures = [(name, count, tuple(blocks)) for name, count, blocks in self.procedures]
        return (self.width, tuple(self.arrays), tuple(procedures))


def read_program(text):
    """Return the program that a text shows; raise TextError at the first line that cannot stand there."""
    rows = text.split("\n")
    if rows[-1] == "":
        # A line feed ends the last line; behind it no other one begins.
        rows.pop()
    draft = Draft()
    for at, row in enumerate(rows):
        line = Line(at + 1, tokens_of(row))
        if len(line.tokens) > 0:
            read_line(draft, line)
            line.close()
    if not draft.is_whole():
        raise TextError(len(rows) + 1)
    return draft.program()


def tokens_of(row):
    """Return the list of the tokens of a line, without its remark."""
    tokens = []
    word = ""
    # The blank behind the line ends its last word.
    for sign in row.partition("#")[0] + " ":
        if sign in LETTERS or sign in DIGITS or sign == "_":
            word = word + sign
            continue
        if word != "":
            tokens.append(word)
            word = ""
        if sign != " ":
            tokens.append(sign)
    return tokens


def number_of(token):
    """Return the number that a token is, or None."""
    if not 1 <= len(token) <= MOST_DIGITS or not is_made_of(token, DIGITS):
        return None
    if token[0] == "0" and token != "0":
        return None
    return int(token)


def variable_of(token):
    """Return the number of the variable that a token is, or None."""
    if token[:1] != "v":
        return None
    number = number_of(token[1:])
    return number if number is not None and number <= GREATEST_VARIABLE else None


def read_line(draft, line):
    """Read a line into a draft."""
    if draft.width is None:
        line.expect("width")
        draft.width = line.integer(1, GREATEST_WIDTH)
        draft.greatest = top(draft.width)
    elif draft.body is not None:
        read_in_block(draft, line)
    elif line.peek() == "array" and len(draft.procedures) == 0:
        line.expect("array")
        draft.arrays.append((line.name(), line.integer(1, GREATEST_SIZE)))
    elif line.peek() == "block" and len(draft.procedures) > 0:
        line.expect("block")
        draft.label = line.integer(0, GREATEST_LABEL)
        draft.body = []
    elif line.peek() == "procedure" and not draft.lacks_block():
        line.expect("procedure")
        draft.procedures.append((line.name(), line.integer(0, MOST_PARAMS), []))
    else:
        raise TextError(line.number)


def read_in_block(draft, line):
    """Read a statement or an end into the block that is open."""
    if line.peek() in ("go", "if", "return"):
        end = read_end(line, draft.greatest)
        draft.procedures[-1][2].append((draft.label, tuple(draft.body), end))
        draft.body = None
    else:
        draft.body.append(read_statement(line, draft.greatest))


def read_end(line, greatest):
    """Take an end and return it."""
    head = line.take()
    if head == "go":
        return ("go", line.integer(0, GREATEST_LABEL))
    value = read_expression(line, greatest)
    if head == "return":
        return ("return", value)
    first = line.integer(0, GREATEST_LABEL)
    return ("if", value, first, line.integer(0, GREATEST_LABEL))


def read_statement(line, greatest):
    """Take a statement and return it."""
    if line.peek() == "put":
        line.expect("put")
        return ("put", read_expression(line, greatest))
    if line.peek() == "assert":
        line.expect("assert")
        number = line.integer(0, GREATEST_ASSERTION)
        return ("assert", number, read_expression(line, greatest))
    if line.peek(1) == "[":
        name = line.name()
        place = read_bracketed(line, greatest, "[", "]", DEEPEST_NESTING)
        line.expect("=")
        return ("store", name, place, read_expression(line, greatest))
    variable = line.variable()
    line.expect("=")
    if line.peek() == "take":
        line.expect("take")
        return ("take", variable)
    if line.peek(1) == "(" and is_name(line.peek()):
        name = line.name()
        return ("call", variable, name, read_arguments(line, greatest))
    return ("set", variable, read_expression(line, greatest))


def read_arguments(line, greatest):
    """Take the arguments of a call with their parentheses and return their tuple."""
    line.expect("(")
    parts = []
    if line.peek() != ")":
        parts.append(read_expression(line, greatest))
        while line.peek() == ",":
            line.expect(",")
            parts.append(read_expression(line, greatest))
    line.expect(")")
    return tuple(parts)


def read_expression(line, greatest, depth=DEEPEST_NESTING):
    """Take an expression that nests at most so deep and return it."""
    if depth == 0:
        raise TextError(line.number)
    token = line.peek()
    if token == "(":
        return read_pair(line, greatest, depth)
    if token in SINGLES:
        line.expect(token)
        return (token, read_bracketed(line, greatest, "(", ")", depth - 1))
    if line.peek(1) == "[":
        name = line.name()
        return ("cell", name, read_bracketed(line, greatest, "[", "]", depth - 1))
    if token[:1] == "v":
        return ("var", line.variable())
    return ("int", line.integer(0, greatest))


def read_pair(line, greatest, depth):
    """Take an op with its two parts, in parentheses, and return it."""
    line.expect("(")
    first = read_expression(line, greatest, depth - 1)
    op = line.take()
    if op not in PAIRS:
        raise TextError(line.number)
    second = read_expression(line, greatest, depth - 1)
    line.expect(")")
    return (op, first, second)


def read_bracketed(line, greatest, opening, closing, depth):
    """Take an expression between two signs and return it."""
    line.expect(opening)
    value = read_expression(line, greatest, depth)
    line.expect(closing)
    return value
