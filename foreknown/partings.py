"""Partings: what is later in each function, form by form, and the best parting."""

from foreknown.shapes import aim_of, aims_of, atoms_of, functions_by_name, is_step, lines_of


# Whether the bits say that the param at this place is later.
def is_later_at(bits, place):
    return (bits >> place) & 1 == 1


# The bits of those places at which True stands.
def bits_of(truths):
    bits = 0
    for place, truth in enumerate(truths):
        if truth:
            bits = bits | (1 << place)
    return bits


# Only asked with `in`, so later may as well be a dict by names: that is quick
# where many lines are looked at.
def need(atoms, later):
    return bits_of([atom[0] == "of" and atom[1] in later for atom in atoms])


def held_bits(function, held):
    return bits_of([(function[0], param) in held for param in function[1]])


def later_params(function, bits):
    return tuple([param for place, param in enumerate(function[1]) if is_later_at(bits, place)])


def known_params(function, bits):
    return tuple([param for place, param in enumerate(function[1]) if not is_later_at(bits, place)])


# A dict with True by each of the names.
def marked(names):
    marks = {}
    for name in names:
        marks[name] = True
    return marks


# The pairs (FUNCTION, BITS) that a form's calls and goes aim at, in order.
def aimed_pairs(function, goals):
    return [(aim[0], goal) for aim, goal in zip(aims_of(function[2]), goals)]


# What is held, told once for all forms.
class Holding:
    def __init__(self, program, held):
        self.pairs = marked(held)
        self.bits_by_name = {}
        for function in program:
            self.bits_by_name[function[0]] = held_bits(function, self.pairs)

    def makes_later(self, name, step, later):
        if step[0] == "call" or need(atoms_of(step), later) != 0:
            return True
        return (name, step[1]) in self.pairs

    def goal_of(self, aim, later):
        return need(aim[1], later) | self.bits_by_name[aim[0]]

    # A name is bound ahead of the lines that it is read in, so one walk in
    # the lines' order finds all that is later.
    def best_form(self, function, bits):
        later = marked(later_params(function, bits))
        steps = []
        goals = []
        for line in lines_of(function[2]):
            aim = aim_of(line)
            if aim is not None:
                goals.append(self.goal_of(aim, later))
            if is_step(line) and self.makes_later(function[0], line, later):
                steps.append(line[1])
                later[line[1]] = True
        return (function[0], bits, tuple(steps), tuple(goals))


def best(program, bits, held):
    functions = functions_by_name(program)
    holding = Holding(program, held)
    met = [(program[0][0], bits)]
    marks = marked(met)
    forms = []
    while len(forms) < len(met):
        pair = met[len(forms)]
        function = functions[pair[0]]
        form = holding.best_form(function, pair[1])
        forms.append(form)
        for aimed in aimed_pairs(function, form[3]):
            if aimed not in marks:
                marks[aimed] = True
                met.append(aimed)
    return tuple(forms)
