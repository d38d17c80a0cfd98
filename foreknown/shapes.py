"""Programs as they stand: names, lines, atoms, and which functions they aim at."""

from foreknown.values import LETTERS, MOST_SIGNS

FIGURES = "0123456789"
MOST_PARAMS = 6
MOST_LINES = 60
MOST_IFS = 8
MOST_FUNCTIONS = 200


def is_name(text):
    if not 1 <= len(text) <= MOST_SIGNS or text[0] not in LETTERS:
        return False
    return all([sign in LETTERS or sign in FIGURES for sign in text])


def is_step(line):
    return line[0] in ("let", "call")


def lines_of(block):
    end = block[1]
    lines = block[0] + (end,)
    if end[0] == "if":
        return lines + lines_of(end[2]) + lines_of(end[3])
    return lines


def depth_of(block):
    end = block[1]
    if end[0] == "if":
        return 1 + max(depth_of(end[2]), depth_of(end[3]))
    return 0


# The pair (FUNCTION, ATOMS) of a call or a go, None of any other line.
def aim_of(line):
    if line[0] == "call":
        return (line[2], line[3])
    if line[0] == "go":
        return (line[1], line[2])
    return None


def atoms_of(line):
    if is_step(line):
        return line[3]
    if line[0] == "go":
        return line[2]
    if line[0] == "fail":
        return ()
    return (line[1],)


def aims_of(block):
    aims = [aim_of(line) for line in lines_of(block)]
    return tuple([aim for aim in aims if aim is not None])


def steps_of(block):
    return tuple([line[1] for line in lines_of(block) if is_step(line)])


def function_by(program, name):
    for function in program:
        if function[0] == name:
            return function
    return None


# For those who ask for many functions of one program.
def functions_by_name(program):
    functions = {}
    for function in program:
        functions[function[0]] = function
    return functions


def values_of(program):
    values = []
    for function in program:
        for line in lines_of(function[2]):
            values.extend([atom[1] for atom in atoms_of(line) if atom[0] == "is"])
    return tuple(values)
