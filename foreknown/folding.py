"""Folding: what can be done with the values that stand in a program."""

from foreknown.errors import Fault
from foreknown.loops import turned_round
from foreknown.ops import chooses_first, op_of
from foreknown.partings import marked
from foreknown.renaming import aimed_names, met_names, stead_of, steads_of
from foreknown.shapes import atoms_of


# The value atom that the function gives at once, whatever it is handed; None
# of a function that does anything else.
def answer_of(function):
    block = function[2]
    if len(block[0]) == 0 and block[1][0] == "give" and block[1][1][0] == "is":
        return block[1][1]
    return None


# One function as it is folded; answers are the value atoms by the names of the
# functions that give them at once. None of a function's names is twice, so one
# dict of steads serves all of its blocks.
class Folding:
    def __init__(self, answers):
        self.answers = answers
        self.steads = {}

    # The value atom that comes in the stead of the step's name; None where the
    # step is left.
    def told_by(self, step, atoms):
        if step[0] == "call":
            return self.answers.get(step[2])
        if all([atom[0] == "is" for atom in atoms]):
            return ("is", op_of(step[2]).answer(tuple([atom[1] for atom in atoms])))
        return None

    def folded_block(self, block):
        left = []
        for step in block[0]:
            atoms = steads_of(step[3], self.steads)
            try:
                told = self.told_by(step, atoms)
            except Fault as fault:
                return (tuple(left), ("fail", fault.word))
            if told is None:
                left.append((step[0], step[1], step[2], atoms))
            else:
                self.steads[step[1]] = told
        behind = self.folded_end(block[1])
        return (tuple(left) + behind[0], behind[1])

    # What comes of an end is a block: a decided if brings steps with it.
    def folded_end(self, end):
        if end[0] == "fail":
            return ((), end)
        if end[0] == "go":
            return ((), self.folded_go(end))
        atom = stead_of(end[1], self.steads)
        if end[0] == "give":
            return ((), ("give", atom))
        if atom[0] == "is":
            return self.settled(end, atom[1])
        return ((), ("if", atom, self.folded_block(end[2]), self.folded_block(end[3])))

    def folded_go(self, end):
        if end[1] in self.answers:
            return ("give", self.answers[end[1]])
        return ("go", end[1], steads_of(end[2], self.steads))

    def settled(self, end, value):
        try:
            first = chooses_first(value)
        except Fault as fault:
            return ((), ("fail", fault.word))
        return self.folded_block(end[2] if first else end[3])


def mark_names(atoms, used):
    for atom in atoms:
        if atom[0] == "of":
            used[atom[1]] = True


def is_idle(step, used):
    return step[0] == "let" and step[1] not in used and op_of(step[2]).never_faults()


# The block without idle lets. Used are the names that atoms behind it have. It
# is gone through from its last line on, so that a let that only idle ones read
# is found idle in the same walk.
def swept_block(block, used):
    end = block[1]
    if end[0] == "if":
        second = swept_block(end[3], used)
        first = swept_block(end[2], used)
        end = ("if", end[1], first, second)
    mark_names(atoms_of(end), used)
    left = []
    for step in reversed(block[0]):
        if not is_idle(step, used):
            mark_names(step[3], used)
            left.append(step)
    return (tuple(reversed(left)), end)


def folded(function, answers):
    block = Folding(answers).folded_block(function[2])
    return (function[0], function[1], swept_block(block, {}))


# The answers of all functions but those with these names.
def answers_beside(functions, names):
    marks = marked(names)
    answers = {}
    for name in functions:
        answer = answer_of(functions[name])
        if answer is not None and name not in marks:
            answers[name] = answer
    return answers


# Puts folded functions in the stead of those with these names, and of those
# that aim at one of them that gives a value at once: so nothing is left to be
# folded, if nothing was but in these and through these.
def fold_all(functions, names):
    callers = turned_round(aimed_names(functions))
    answers = answers_beside(functions, names)
    while len(names) > 0:
        again = {}
        for name in names:
            functions[name] = folded(functions[name], answers)
            answer = answer_of(functions[name])
            if answer is not None and name not in answers:
                answers[name] = answer
                for caller in callers[name]:
                    again[caller] = True
        names = list(again)


# Those of the functions that can be come to from the main one.
def kept(functions, main):
    found = {}
    for name in met_names(functions, main):
        found[name] = functions[name]
    return found
