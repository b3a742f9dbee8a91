"""Words of literals: lists with the literal of the lowest bit first."""

from inputways.pool import NO, YES


def constant(pool, n, w):
    """Return the word of a number; it needs no gate of the pool, whose literals no and yes are those of all."""
    return [YES if (n >> k) & 1 else NO for k in range(w)]


def added(pool, x, y, carry):
    """Return the word of the sum of two words and the bit of a literal."""
    total = []
    for a, b in zip(x, y):
        total.append(pool.unlike(pool.unlike(a, b), carry))
        carry = pool.most(a, b, carry)
    return total


def computed(pool, op, x, y):
    """Return the word that an op of two parts gives."""
    if op == "add":
        return added(pool, x, y, NO)
    if op == "sub":
        return added(pool, x, turned(y), YES)
    if op == "mul":
        return multiplied(pool, x, y)
    if op == "and":
        return [pool.both(a, b) for a, b in zip(x, y)]
    if op == "or":
        return [pool.either(a, b) for a, b in zip(x, y)]
    if op == "xor":
        return [pool.unlike(a, b) for a, b in zip(x, y)]
    if op == "shl":
        return shifted_left(pool, x, y)
    if op == "shr":
        # Read from its highest bit on, a word is shifted the other way.
        return shifted_left(pool, x[::-1], y)[::-1]
    truth = less_word(pool, x, y) if op == "less" else equal_word(pool, x, y)
    return [truth] + [NO] * (len(x) - 1)


def single(pool, op, x):
    """Return the word that an op of one part gives."""
    if op == "not":
        return turned(x)
    return added(pool, turned(x), [NO] * len(x), YES)


def turned(x):
    """Return the word with the opposite of each bit."""
    return [a ^ 1 for a in x]


def multiplied(pool, x, y):
    """Return the word of a product."""
    # Rows for bits that are always 0 fall away, so the word with more of them tells the rows.
    if x.count(NO) > y.count(NO):
        x, y = y, x
    total = [NO] * len(x)
    for k, bit in enumerate(y):
        row = [pool.both(bit, a) for a in x[:len(x) - k]]
        total = total[:k] + added(pool, total[k:], row, NO)
    return total


def shifted_left(pool, x, y):
    """Return x shifted to the left by y bits."""
    w = len(x)
    for k, bit in enumerate(y):
        # More than w bits shift all out; so a far shift needs no more of them.
        far = min(1 << k, w)
        x = chosen_word(pool, bit, [NO] * far + x[:w - far], x)
    return x


def less_word(pool, x, y):
    """Return the literal that x is less than y."""
    less = NO
    for a, b in zip(x, y):
        less = pool.most(a ^ 1, b, less)
    return less


def equal_word(pool, x, y):
    """Return the literal that two words are equal."""
    equal = YES
    for a, b in zip(x, y):
        equal = pool.both(equal, pool.unlike(a, b) ^ 1)
    return equal


def is_true(pool, x):
    """Return the literal that a word is not 0."""
    found = NO
    for a in x:
        found = pool.either(found, a)
    return found


def chosen_word(pool, c, x, y):
    """Return the word x where a literal is 1, otherwise y."""
    return [pool.chosen(c, a, b) for a, b in zip(x, y)]


def word_value(pool, x, bits):
    """Return the number of a word for a dict from names to bits."""
    number = 0
    for k, bit in enumerate(pool.computed(x, bits)):
        number |= bit << k
    return number
