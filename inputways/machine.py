"""A machine that does the moves of a program, one run at a time.

The words of this machine are integers. A machine with words of another kind is a class below it,
which says what words are, and what happens where they tell which way the run goes on.
"""

from inputways.moves import moves_of
from inputways.programs import GREATEST_VARIABLE, MAIN
from inputways.words import compute

# So many procedures may be begun and not ended, main among them.
MOST_OPEN = 12


class Plan:
    """A program as its runs need it."""

    def __init__(self, program):
        self.width, arrays, procedures = program
        self.sizes = {name: size for name, size in arrays}
        self.params = {name: count for name, count, _ in procedures}
        self.entries = {name: blocks[0][0] for name, _, blocks in procedures}
        self.blocks = {}
        for name, _, blocks in procedures:
            for label, body, end in blocks:
                self.blocks[(name, label)] = (body, end)
        self.rows = {}

    def moves(self, procedure, label):
        """Return the moves of a block; they are made when the block is begun for the first time."""
        key = (procedure, label)
        if key not in self.rows:
            body, end = self.blocks[key]
            self.rows[key] = moves_of(body, end)
        return self.rows[key]


class Frame:
    """A procedure that has begun and not ended."""

    def __init__(self, procedure, back, variables):
        self.procedure = procedure
        # The variable of the caller that gets what the procedure returns.
        self.back = back
        self.variables = variables
        self.label = None
        self.todo = []
        self.place = 0

    def twin(self):
        """Return another frame at the same place, with the same words."""
        other = Frame(self.procedure, self.back, list(self.variables))
        other.label = self.label
        other.todo = self.todo
        other.place = self.place
        return other


class Machine:
    """A run of a program. Its end is None as long as it goes on."""

    def __init__(self, plan, inputs, steps):
        self.plan = plan
        self.inputs = inputs
        self.steps = steps
        self.taken = 0
        self.cells = {name: [self.plain(0)] * plan.sizes[name] for name in plan.sizes}
        self.stack = []
        self.frames = []
        self.writes = []
        self.path = []
        self.edges = []
        self.end = None

    def plain(self, n):
        """Return the word of a number."""
        return n

    def paired(self, op, x, y):
        """Return the word that an op of two parts gives."""
        return compute(op, self.plan.width, x, y)

    def singled(self, op, x):
        """Return the word that an op of one part gives."""
        return compute(op, self.plan.width, x, 0)

    def holds(self, x):
        """Tell whether a word is not 0."""
        return x != 0

    def inside(self, x, size):
        """Tell whether a word is below the size of an array."""
        return x < size

    def read(self, name, x):
        """Return the word of a cell."""
        return self.cells[name][x]

    def store(self, name, x, word):
        """Put a word into a cell."""
        self.cells[name][x] = word

    def go(self):
        """Do the run of main up to its end."""
        self.begin_procedure("", MAIN, [])
        self.work()

    def work(self):
        """Do one move after another up to the end."""
        while self.end is None:
            frame = self.frames[-1]
            move = frame.todo[frame.place]
            frame.place += 1
            action = ACTIONS[move[0]]
            action(self, move)

    def begin_procedure(self, back, procedure, arguments):
        """Begin a procedure with the words of its arguments."""
        lacking = GREATEST_VARIABLE + 1 - len(arguments)
        self.frames.append(Frame(procedure, back, arguments + [self.plain(0)] * lacking))
        self.begin_block(self.plan.entries[procedure])

    def begin_block(self, label):
        """Begin a block of the procedure that runs, or end the run where no step is left."""
        if len(self.path) >= self.steps:
            self.end = ("none",)
            return
        frame = self.frames[-1]
        frame.label = label
        frame.todo = self.plan.moves(frame.procedure, label)
        frame.place = 0
        self.path.append((frame.procedure, label))

    def lead(self, label):
        """Go on from the end of a block to another one."""
        frame = self.frames[-1]
        edge = ("edge", frame.procedure, frame.label, label)
        self.begin_block(label)
        if self.end is None:
            self.edges.append(edge)

    def end_at(self, word, at):
        """Return the end of a run that ends at statement number at of the block that runs."""
        frame = self.frames[-1]
        return (word, frame.procedure, frame.label, at)

    def take(self):
        """Return the next input, or 0 behind the last one."""
        if self.taken >= len(self.inputs):
            return self.plain(0)
        self.taken += 1
        return self.inputs[self.taken - 1]

    def write(self, word):
        """Write a word."""
        self.writes.append(word)

    def look(self, x, name, at):
        """End the run if an index is not below the size of its array."""
        if self.inside(x, self.plan.sizes[name]) is False:
            self.end = self.end_at("index", at)

    def affirm(self, x, k):
        """End the run if the word of an assertion is 0."""
        if self.holds(x) is False:
            self.end = ("broken", k)

    def call(self, back, procedure, arguments, at):
        """Begin a procedure, or end the run if too many are open."""
        if len(self.frames) >= MOST_OPEN:
            self.end = self.end_at("deep", at)
        else:
            self.begin_procedure(back, procedure, arguments)

    def part(self, x, first, second):
        """Lead to one of two blocks; to none where it is not told to which."""
        side = self.holds(x)
        if side is not None:
            self.lead(first if side else second)

    def give_back(self, word):
        """End the procedure that runs, and the run if it is the one of main."""
        frame = self.frames.pop()
        if len(self.frames) > 0:
            self.frames[-1].variables[frame.back] = word
        else:
            self.end = ("return", word)


def do_number(machine, move):
    """Push a number."""
    machine.stack.append(machine.plain(move[1]))


def do_var(machine, move):
    """Push the word of a variable."""
    machine.stack.append(machine.frames[-1].variables[move[1]])


def do_look(machine, move):
    """Look whether an index is below the size of its array."""
    _, name, at, back = move
    machine.look(machine.stack[-back], name, at)


def do_cell(machine, move):
    """Push the word of a cell."""
    machine.stack.append(machine.read(move[1], machine.stack.pop()))


def do_pair(machine, move):
    """Push what an op gives of two words."""
    y = machine.stack.pop()
    x = machine.stack.pop()
    machine.stack.append(machine.paired(move[1], x, y))


def do_single(machine, move):
    """Push what an op gives of one word."""
    machine.stack.append(machine.singled(move[1], machine.stack.pop()))


def do_set(machine, move):
    """Give a variable a word."""
    machine.frames[-1].variables[move[1]] = machine.stack.pop()


def do_take(machine, move):
    """Give a variable the next input."""
    machine.frames[-1].variables[move[1]] = machine.take()


def do_put(machine, _):
    """Write a word."""
    machine.write(machine.stack.pop())


def do_store(machine, move):
    """Put a word into a cell."""
    word = machine.stack.pop()
    machine.store(move[1], machine.stack.pop(), word)


def do_assert(machine, move):
    """Look whether an assertion is broken."""
    machine.affirm(machine.stack.pop(), move[1])


def do_call(machine, move):
    """Call a procedure with all words of the stack."""
    _, back, procedure, at = move
    arguments = machine.stack
    machine.stack = []
    machine.call(back, procedure, arguments, at)


def do_go(machine, move):
    """Lead to the block of a label."""
    machine.lead(move[1])


def do_if(machine, move):
    """Lead to one of two blocks."""
    machine.part(machine.stack.pop(), move[1], move[2])


def do_return(machine, _):
    """End the procedure that runs."""
    machine.give_back(machine.stack.pop())


ACTIONS = {
    "number": do_number, "var": do_var, "look": do_look, "cell": do_cell, "pair": do_pair, "single": do_single,
    "set": do_set, "take": do_take, "put": do_put, "store": do_store, "assert": do_assert, "call": do_call,
    "go": do_go, "if": do_if, "return": do_return,
}
