"""The trouble that a program may have, told as a refusal."""

from foreknown.errors import NoFunction, Twice, Unbound, WrongCount
from foreknown.shapes import aim_of, atoms_of


# How many params each function has, by its name.
def param_counts(program):
    counts = {}
    for function in program:
        name = function[0]
        if name in counts:
            raise Twice(name, name)
        counts[name] = len(function[1])
    return counts


def bound_params(function):
    bound = {}
    for param in function[1]:
        if param in bound:
            raise Twice(function[0], param)
        bound[param] = True
    return bound


def check_aim(name, aim, counts):
    if aim[0] not in counts:
        raise NoFunction(name, aim[0])
    if len(aim[1]) != counts[aim[0]]:
        raise WrongCount(name, aim[0])


def check_atoms(name, atoms, bound):
    for atom in atoms:
        if atom[0] == "of" and atom[1] not in bound:
            raise Unbound(name, atom[1])


def check_line(name, line, counts, bound):
    aim = aim_of(line)
    if aim is not None:
        check_aim(name, aim, counts)
    check_atoms(name, atoms_of(line), bound)


# Taken are all names of the function so far, wherever they stand; bound are
# those that an atom here may name. A block's own names are bound in no block
# beside it, so each block goes on with a copy.
def check_block(name, block, counts, outer, taken):
    bound = dict(outer)
    for step in block[0]:
        check_line(name, step, counts, bound)
        if step[1] in taken:
            raise Twice(name, step[1])
        taken[step[1]] = True
        bound[step[1]] = True
    end = block[1]
    check_line(name, end, counts, bound)
    if end[0] == "if":
        check_block(name, end[2], counts, bound, taken)
        check_block(name, end[3], counts, bound, taken)


def check(program):
    counts = param_counts(program)
    for function in program:
        bound = bound_params(function)
        check_block(function[0], function[2], counts, bound, dict(bound))
