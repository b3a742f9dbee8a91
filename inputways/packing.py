"""Packing: plain values as lists of bytes, and back."""

from inputways.errors import PackError
from inputways.programs import is_between

CHARACTERS = "abcdefghijklmnopqrstuvwxyz0123456789_"
PLAIN = (None, False, True)

# The first bytes of the other kinds.
FROM_ZERO = 3
BELOW_ZERO = 4
STRING = 5
TUPLE = 6

DEEPEST_TUPLES = 60
# A digit of a size to which this is added is not the last one.
MORE = 128
# What PackError tells where there is no byte.
NO_BYTE = -1


def pack(value):
    """Return the list of the bytes of a plain value; raise PackError(-1) for a value of another form."""
    data = []
    pack_into(data, value, DEEPEST_TUPLES)
    return data


def pack_into(data, value, depth):
    """Put the bytes of a value, in which tuples nest at most so deep, at the end of a list."""
    if value is None:
        data.append(0)
    elif value is False:
        data.append(1)
    elif value is True:
        data.append(2)
    elif isinstance(value, int):
        data.append(FROM_ZERO if value >= 0 else BELOW_ZERO)
        data.extend(size_bytes(value if value >= 0 else -1 - value))
    elif isinstance(value, str):
        data.append(STRING)
        data.extend(size_bytes(len(value)))
        data.extend([place_of(sign) for sign in value])
    elif isinstance(value, tuple) and depth > 0:
        data.append(TUPLE)
        data.extend(size_bytes(len(value)))
        for part in value:
            pack_into(data, part, depth - 1)
    else:
        raise PackError(NO_BYTE)


def place_of(sign):
    """Return the place of a character."""
    place = CHARACTERS.find(sign)
    if place < 0:
        raise PackError(NO_BYTE)
    return place


def size_bytes(n):
    """Return the list of the digits of a number in base 128, the lowest one first."""
    digits = []
    while n >= MORE:
        digits.append(n & (MORE - 1) | MORE)
        n = n >> 7
    return digits + [n]


def unpack(data):
    """Return the value that bytes tell; raise PackError where a byte cannot stand, or where one is lacking."""
    reader = Reader(data)
    value = reader.value(DEEPEST_TUPLES)
    if reader.at < len(data):
        raise PackError(reader.at)
    return value


class Reader:
    """Bytes that are read; at is the index of the next one."""

    def __init__(self, data):
        self.data = data
        self.at = 0

    def byte(self):
        """Return the next byte."""
        if self.at >= len(self.data) or not is_between(self.data[self.at], 0, 255):
            raise PackError(self.at)
        self.at += 1
        return self.data[self.at - 1]

    def value(self, depth):
        """Read a value, in which tuples nest at most so deep."""
        kind = self.byte()
        if kind < len(PLAIN):
            return PLAIN[kind]
        if kind == FROM_ZERO:
            return self.size()
        if kind == BELOW_ZERO:
            return -1 - self.size()
        if kind == STRING:
            return "".join([self.character() for _ in range(self.size())])
        if kind != TUPLE or depth == 0:
            raise PackError(self.at - 1)
        return tuple([self.value(depth - 1) for _ in range(self.size())])

    def size(self):
        """Read a number."""
        n = 0
        shift = 0
        digit = self.byte()
        while digit >= MORE:
            n |= (digit - MORE) << shift
            shift += 7
            digit = self.byte()
        if digit == 0 and shift > 0:
            raise PackError(self.at - 1)
        return n | digit << shift

    def character(self):
        """Read a character."""
        place = self.byte()
        if place >= len(CHARACTERS):
            raise PackError(self.at - 1)
        return CHARACTERS[place]
