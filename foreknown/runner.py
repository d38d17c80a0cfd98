"""The runner: a program run on its inputs, line by line, within a budget."""

from foreknown.errors import Fault
from foreknown.ops import chooses_first, op_of
from foreknown.shapes import functions_by_name


# A function while it runs: the values by its names, the block that it is in,
# and how many of that block's steps lie behind it.
class Frame:
    def __init__(self, function, values):
        self.bound = dict(zip(function[1], values))
        self.block = function[2]
        self.place = 0

    def line_here(self):
        steps = self.block[0]
        if self.place < len(steps):
            return steps[self.place]
        return self.block[1]

    def value_of(self, atom):
        if atom[0] == "is":
            return atom[1]
        return self.bound[atom[1]]

    def values_by(self, atoms):
        return tuple([self.value_of(atom) for atom in atoms])

    def end_step(self, value):
        name = self.line_here()[1]
        self.bound[name] = value
        self.place += 1

    def enter(self, block):
        self.block = block
        self.place = 0


# The frames that wait stand in a list, the running one last: calls may wait
# far deeper within one another than Python's own calls could.
class Runner:
    def __init__(self, program, inputs):
        self.functions = functions_by_name(program)
        self.frames = [Frame(program[0], inputs)]
        self.told = None

    def at_rest(self):
        return len(self.frames) == 0

    def begin(self, name, values):
        self.frames.append(Frame(self.functions[name], values))

    def give_back(self, value):
        self.frames.pop()
        if self.at_rest():
            self.told = value
        else:
            self.frames[-1].end_step(value)

    def go_line(self):
        frame = self.frames[-1]
        line = frame.line_here()
        if line[0] == "let":
            frame.end_step(op_of(line[2]).answer(frame.values_by(line[3])))
        elif line[0] == "call":
            self.begin(line[2], frame.values_by(line[3]))
        elif line[0] == "give":
            self.give_back(frame.value_of(line[1]))
        elif line[0] == "go":
            self.frames.pop()
            self.begin(line[1], frame.values_by(line[2]))
        elif line[0] == "if":
            frame.enter(line[2] if chooses_first(frame.value_of(line[1])) else line[3])
        else:
            raise Fault(line[1])


def run(program, inputs, budget):
    runner = Runner(program, inputs)
    steps = 0
    while steps < budget:
        steps += 1
        try:
            runner.go_line()
        except Fault as fault:
            return ("fault", fault.word, steps)
        if runner.at_rest():
            return ("told", runner.told, steps)
    return ("out", None, budget)
