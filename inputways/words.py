"""Words of a width, and the ops on them."""

PAIRS = ("add", "sub", "mul", "and", "or", "xor", "shl", "shr", "less", "equal")
SINGLES = ("not", "neg")


def top(w):
    """Return the greatest word of width w."""
    return (1 << w) - 1


def compute(op, w, x, y):
    """Return the word of width w that an op gives of x and y, or of x alone for SINGLES."""
    if op == "not":
        return x ^ top(w)
    if op == "neg":
        return (0 - x) & top(w)
    if op == "add":
        return (x + y) & top(w)
    if op == "sub":
        return (x - y) & top(w)
    if op == "mul":
        return (x * y) & top(w)
    if op == "and":
        return x & y
    if op == "or":
        return x | y
    if op == "xor":
        return x ^ y
    if op in ("shl", "shr"):
        return shifted(op, w, x, y)
    # A comparison of Python would give True or False, and these are no words.
    if op == "less":
        return 1 if x < y else 0
    return 1 if x == y else 0


def shifted(op, w, x, y):
    """Return x shifted by y bits, to the left for shl and to the right for shr."""
    # Known without a shift: y may be so great that the shift would make a huge integer.
    if y >= w:
        return 0
    if op == "shl":
        return (x << y) & top(w)
    return x >> y
