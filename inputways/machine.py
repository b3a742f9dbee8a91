"""A machine that does the moves of a program, one run at a time.

The words of this machine are integers. A machine with words of another kind is a class below it,
which says what words are and how they tell which way the run goes on.
"""

from inputways.moves import moves_of
from inputways.programs import GREATEST_VARIABLE, MAIN
from inputways.words import compute

# So many procedures may be begun and not ended, main among them.
MOST_OPEN = 12


class Plan:
    """A program as its runs need it."""

    def __init__(self, program):
        self.width, arrays, procedures = program
        self.sizes = {name: size for name, size in arrays}
        self.entries = {name: blocks[0][0] for name, _, blocks in procedures}
        self.blocks = {}
        for name, _, blocks in procedures:
            for label, body, end in blocks:
                self.blocks[(name, label)] = (body, end)
        self.rows = {}

    def moves(self, procedure, label):
        """Return the moves of a block; they are made when the block is begun for the first time."""
        key = (procedure, label)
        if key not in self.rows:
            body, end = self.blocks[key]
            self.rows[key] = moves_of(body, end)
        return self.rows[key]


class Frame:
    """A procedure that has begun and not ended."""

    def __init__(self, procedure, back, variables):
        self.procedure = procedure
        # The variable of the caller that gets what the procedure returns.
        self.back = back
        self.variables = variables
        self.label = None
        self.todo = []
        self.place = 0


class Machine:
    """A run of a program. Its end is None as long as it goes on."""

    def __init__(self, plan, inputs, steps):
        self.plan = plan
        self.inputs = inputs
        self.steps = steps
        self.taken = 0
        self.cells = {name: [self.plain(0)] * plan.sizes[name] for name in plan.sizes}
        self.stack = []
        self.frames = []
        self.writes = []
        self.path = []
        self.edges = []
        self.end = None

    def plain(self, n):
        """Return the word of a number."""
        return n

    def paired(self, op, x, y):
        """Return the word that an op of two parts gives."""
        return compute(op, self.plan.width, x, y)

    def singled(self, op, x):
        """Return the word that an op of one part gives."""
        return compute(op, self.plan.width, x, 0)

    def holds(self, x):
        """Tell whether a word is not 0."""
        return x != 0

    def inside(self, x, size):
        """Tell whether a word is below the size of an array."""
        return x < size

    def read(self, name, x):
        """Return the word of a cell."""
        return self.cells[name][x]

    def store(self, name, x, word):
        """Put a word into a cell."""
        self.cells[name][x] = word

    def go(self):
        """Do the run of main up to its end."""
        self.begin_procedure("", MAIN, [])
        while self.end is None:
            frame = self.frames[-1]
            move = frame.todo[frame.place]
            frame.place += 1
            action = ACTIONS[move[0]]
            action(self, move)

    def begin_procedure(self, back, procedure, arguments):
        """Begin a procedure with the words of its arguments."""
        lacking = GREATEST_VARIABLE + 1 - len(arguments)
        self.frames.append(Frame(procedure, back, arguments + [self.plain(0)] * lacking))
        self.begin_block(self.plan.entries[procedure])

    def begin_block(self, label):
        """Begin a block of the procedure that runs, or end the run where no step is left."""
        if len(self.path) >= self.steps:
            self.end = ("none",)
            return
        frame = self.frames[-1]
        frame.label = label
        frame.todo = self.plan.moves(frame.procedure, label)
        frame.place = 0
        self.path.append((frame.procedure, label))

    def lead(self, label):
        """Go on from the end of a block to another one."""
        frame = self.frames[-1]
        edge = ("edge", frame.procedure, frame.label, label)
        self.begin_block(label)
        if self.end is None:
            self.edges.append(edge)

    def end_at(self, word, at):
        """End the run at statement number at of the block that runs."""
        frame = self.frames[-1]
        self.end = (word, frame.procedure, frame.label, at)


def do_number(machine, move):
    """Push a number."""
    machine.stack.append(machine.plain(move[1]))


def do_var(machine, move):
    """Push the word of a variable."""
    machine.stack.append(machine.frames[-1].variables[move[1]])


def do_look(machine, move):
    """Look whether an index is below the size of its array."""
    _, name, at, back = move
    if machine.inside(machine.stack[-back], machine.plan.sizes[name]) is False:
        machine.end_at("index", at)


def do_cell(machine, move):
    """Push the word of a cell."""
    machine.stack.append(machine.read(move[1], machine.stack.pop()))


def do_pair(machine, move):
    """Push what an op gives of two words."""
    y = machine.stack.pop()
    x = machine.stack.pop()
    machine.stack.append(machine.paired(move[1], x, y))


def do_single(machine, move):
    """Push what an op gives of one word."""
    machine.stack.append(machine.singled(move[1], machine.stack.pop()))


def do_set(machine, move):
    """Give a variable a word."""
    machine.frames[-1].variables[move[1]] = machine.stack.pop()


def do_take(machine, move):
    """Give a variable the next input."""
    word = machine.plain(0)
    if machine.taken < len(machine.inputs):
        word = machine.inputs[machine.taken]
        machine.taken += 1
    machine.frames[-1].variables[move[1]] = word


def do_put(machine, _):
    """Write a word."""
    machine.writes.append(machine.stack.pop())


def do_store(machine, move):
    """Put a word into a cell."""
    word = machine.stack.pop()
    machine.store(move[1], machine.stack.pop(), word)


def do_assert(machine, move):
    """End the run if a word is 0."""
    if machine.holds(machine.stack.pop()) is False:
        machine.end = ("broken", move[1])


def do_call(machine, move):
    """Begin a procedure, or end the run if too many are open."""
    _, back, procedure, at = move
    arguments = machine.stack
    machine.stack = []
    if len(machine.frames) >= MOST_OPEN:
        machine.end_at("deep", at)
    else:
        machine.begin_procedure(back, procedure, arguments)


def do_go(machine, move):
    """Lead to the block of a label."""
    machine.lead(move[1])


def do_if(machine, move):
    """Lead to one of two blocks; to none where the machine does not tell to which."""
    first = machine.holds(machine.stack.pop())
    if first is not None:
        machine.lead(move[1] if first else move[2])


def do_return(machine, _):
    """End the procedure that runs, and the run if it is the one of main."""
    word = machine.stack.pop()
    frame = machine.frames.pop()
    if len(machine.frames) > 0:
        machine.frames[-1].variables[frame.back] = word
    else:
        machine.end = ("return", word)


ACTIONS = {
    "number": do_number, "var": do_var, "look": do_look, "cell": do_cell, "pair": do_pair, "single": do_single,
    "set": do_set, "take": do_take, "put": do_put, "store": do_store, "assert": do_assert, "call": do_call,
    "go": do_go, "if": do_if, "return": do_return,
}
