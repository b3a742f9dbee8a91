"""What a program is, and what is wrong with a plain value as a program."""

from inputways.words import PAIRS, SINGLES, top

LETTERS = "abcdefghijklmnopqrstuvwxyz"
DIGITS = "0123456789"
RESERVED = ("width", "array", "procedure", "block", "put", "take", "assert", "go", "if", "return")
MAIN = "main"

LONGEST_NAME = 20
GREATEST_WIDTH = 16
GREATEST_SIZE = 8
MOST_PARAMS = 6
GREATEST_LABEL = 999
GREATEST_VARIABLE = 39
GREATEST_ASSERTION = 99
DEEPEST_NESTING = 20


class Scope:
    """What the statements of one program may use: its words, its arrays, its procedures."""

    def __init__(self, width, arrays, params):
        self.greatest = top(width)
        self.arrays = arrays
        # The number of params for each name that may be called; None where calls are not looked at.
        self.params = params


def program_faults(value):
    """Return the ascending list of (path, code) of what is wrong with a plain value as a program."""
    if not has_form(value):
        return [((), "form")]
    width, arrays, procedures = value
    faults = []
    params = None
    if are_named(procedures):
        params = {row[0]: row[1] for row in procedures if row[0] != MAIN}
    else:
        faults.append(((), "name"))
    scope = Scope(width, [row[0] for row in arrays], params)
    for p, row in enumerate(procedures):
        for b in range(len(row[2])):
            faults.extend([((p, b), code) for code in block_faults(row[2], b, scope)])
    return sorted(faults)


def is_between(value, low, high):
    """Tell whether a plain value is an integer from low to high; True and False are none."""
    return isinstance(value, int) and not isinstance(value, bool) and low <= value <= high


def is_row(value, length):
    """Tell whether a plain value is a tuple of so many items."""
    return isinstance(value, tuple) and len(value) == length


def is_made_of(text, signs):
    """Tell whether each character of a text is one of the signs."""
    return all([sign in signs for sign in text])


def is_name(value):
    """Tell whether a plain value is a name of an array or a procedure."""
    if not isinstance(value, str) or not 1 <= len(value) <= LONGEST_NAME:
        return False
    if value[0] not in LETTERS or not is_made_of(value, LETTERS + DIGITS + "_"):
        return False
    if value in PAIRS or value in SINGLES or value in RESERVED:
        return False
    # In a text, v and digits are a variable; v alone is a name like others.
    return value == "v" or value[0] != "v" or not is_made_of(value[1:], DIGITS)


def is_label(value):
    """Tell whether a plain value is a label."""
    return is_between(value, 0, GREATEST_LABEL)


def is_variable(value):
    """Tell whether a plain value is a variable."""
    return is_between(value, 0, GREATEST_VARIABLE)


def ascend(names):
    """Tell whether names are sorted, each of them once."""
    return all([earlier < later for earlier, later in zip(names, names[1:])])


def has_form(value):
    """Tell whether a plain value has the outline of a program: all but procedures' names and blocks' parts."""
    if not is_row(value, 3):
        return False
    width, arrays, procedures = value
    if not is_between(width, 1, GREATEST_WIDTH) or not are_arrays(arrays):
        return False
    return isinstance(procedures, tuple) and all([has_procedure_form(row) for row in procedures])


def are_arrays(value):
    """Tell whether a plain value is a tuple of named arrays with sizes, ascending by name."""
    if not isinstance(value, tuple):
        return False
    for row in value:
        if not is_row(row, 2) or not is_name(row[0]) or not is_between(row[1], 1, GREATEST_SIZE):
            return False
    return ascend([row[0] for row in value])


def has_procedure_form(value):
    """Tell whether a plain value is a string, a number of params, and a tuple of blocks in outline."""
    if not is_row(value, 3):
        return False
    name, count, blocks = value
    if not isinstance(name, str) or not is_between(count, 0, MOST_PARAMS):
        return False
    if not isinstance(blocks, tuple) or len(blocks) == 0:
        return False
    return all([is_row(block, 3) and isinstance(block[1], tuple) for block in blocks])


def are_named(procedures):
    """Tell whether the procedures have names that ascend, and there is a main without params."""
    names = [row[0] for row in procedures]
    if not all([is_name(name) for name in names]) or not ascend(names):
        return False
    return (MAIN, 0) in [(row[0], row[1]) for row in procedures]


def block_faults(blocks, b, scope):
    """Return the codes of what is wrong with block number b of the blocks of a procedure."""
    label, body, end = blocks[b]
    codes = []
    if not is_label(label):
        codes.append("label")
    elif label in labels_of(blocks[:b]):
        codes.append("twice")
    if not all([is_statement(item, scope) for item in body]):
        codes.append("statement")
    if is_end(end, scope):
        codes.extend(target_faults(targets_of(end), blocks))
    else:
        codes.append("end")
    return codes


def labels_of(blocks):
    """Return the labels of blocks, without what is no label."""
    # True would be found as the label 1 if it stayed in the list.
    return [block[0] for block in blocks if is_label(block[0])]


def target_faults(targets, blocks):
    """Return the codes of what is wrong with the labels to which an end leads."""
    labels = labels_of(blocks)
    entry = labels_of(blocks[:1])
    codes = []
    if not all([target in labels for target in targets]):
        codes.append("target")
    if any([target in entry for target in targets]):
        codes.append("entry")
    return codes


def targets_of(end):
    """Return the tuple of the labels of an end, in its order."""
    if end[0] == "go":
        return end[1:]
    if end[0] == "if":
        return end[2:]
    return ()


def is_expression(value, scope, depth=DEEPEST_NESTING):
    """Tell whether a plain value is an expression that nests at most so deep."""
    if depth == 0:
        return False
    if is_row(value, 2):
        head, part = value
        if head == "int":
            return is_between(part, 0, scope.greatest)
        if head == "var":
            return is_variable(part)
        return head in SINGLES and is_expression(part, scope, depth - 1)
    if not is_row(value, 3):
        return False
    head, first, second = value
    if head == "cell":
        return first in scope.arrays and is_expression(second, scope, depth - 1)
    if head not in PAIRS or not is_expression(first, scope, depth - 1):
        return False
    return is_expression(second, scope, depth - 1)


def is_statement(value, scope):
    """Tell whether a plain value is a statement; what begins as a call is one where calls are not looked at."""
    if not isinstance(value, tuple) or len(value) == 0:
        return False
    if value[0] == "call":
        return scope.params is None or is_call(value, scope)
    if len(value) == 2:
        return is_take(value) or is_put(value, scope)
    if len(value) == 3:
        return is_set(value, scope) or is_assert(value, scope)
    return is_store(value, scope)


def is_take(value):
    """Tell whether a pair is a take."""
    return value[0] == "take" and is_variable(value[1])


def is_put(value, scope):
    """Tell whether a pair is a put."""
    return value[0] == "put" and is_expression(value[1], scope)


def is_set(value, scope):
    """Tell whether a triple is a set."""
    return value[0] == "set" and is_variable(value[1]) and is_expression(value[2], scope)


def is_assert(value, scope):
    """Tell whether a triple is an assert."""
    if value[0] != "assert" or not is_between(value[1], 0, GREATEST_ASSERTION):
        return False
    return is_expression(value[2], scope)


def is_store(value, scope):
    """Tell whether a tuple is a store."""
    if len(value) != 4 or value[0] != "store" or value[1] not in scope.arrays:
        return False
    return is_expression(value[2], scope) and is_expression(value[3], scope)


def is_call(value, scope):
    """Tell whether a tuple that begins as a call is one of a procedure, with as many arguments as it has params."""
    if len(value) != 4 or not is_variable(value[1]):
        return False
    name, arguments = value[2], value[3]
    if not isinstance(name, str) or name not in scope.params:
        return False
    return is_row(arguments, scope.params[name]) and all([is_expression(part, scope) for part in arguments])


def is_end(value, scope):
    """Tell whether a plain value is an end, whatever the blocks of its labels."""
    if is_row(value, 2) and value[0] == "go":
        return is_label(value[1])
    if is_row(value, 2) and value[0] == "return":
        return is_expression(value[1], scope)
    if not is_row(value, 4) or value[0] != "if" or not is_expression(value[1], scope):
        return False
    return is_label(value[2]) and is_label(value[3])
