"""The checker: the first row of a parting that is broken."""

from foreknown.partings import later_params, marked, need
from foreknown.shapes import aim_of, atoms_of, functions_by_name, lines_of


# The word of the row that is broken by a step's name not being later.
def broken_name(line, later):
    if line[0] == "let" and need(atoms_of(line), later) != 0 and line[1] not in later:
        return "let"
    if line[0] == "call" and line[1] not in later:
        return "call"
    return None


# The word of the row that is broken by what a call or a go aims at; pairs are
# the functions and bits of all forms.
def broken_aim(aim, goal, later, pairs):
    if need(aim[1], later) | goal != goal:
        return "goal"
    if (aim[0], goal) not in pairs:
        return "form"
    return None


def broken_form(function, form, pairs):
    later = marked(later_params(function, form[1]) + form[2])
    place = 0
    for line in lines_of(function[2]):
        word = broken_name(line, later)
        if word is not None:
            return (word, form[0], form[1], line[1])
        aim = aim_of(line)
        if aim is not None:
            word = broken_aim(aim, form[3][place], later, pairs)
            if word is not None:
                return (word, form[0], form[1], place)
            place += 1
    return None


def broken(program, parting):
    functions = functions_by_name(program)
    pairs = marked([(form[0], form[1]) for form in parting])
    for form in parting:
        row = broken_form(functions[form[0]], form, pairs)
        if row is not None:
            return row
    return None
