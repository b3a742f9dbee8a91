"""The errors that the package raises."""


class WaysError(ValueError):
    """The base of all errors of the package."""


class TextError(WaysError):
    """A text is no program: line is the number of the first wrong line, from 1."""

    def __init__(self, line):
        super().__init__(f"line {line} cannot stand there")
        self.line = line


class PackError(WaysError):
    """Bytes are no packed value, or a value cannot be packed: at tells where, or is -1."""

    def __init__(self, at):
        super().__init__(f"cannot stand at {at}")
        self.at = at
