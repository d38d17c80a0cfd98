"""Names: other atoms in the stead of names, and a program's functions in order and named."""

from foreknown.loops import found_from
from foreknown.partings import marked
from foreknown.shapes import aims_of, steps_of


# Steads is here and below a dict: by a name the atom that comes in its stead.
# A name that isn't in it stays.
def stead_of(atom, steads):
    if atom[0] == "of":
        return steads.get(atom[1], atom)
    return atom


def steads_of(atoms, steads):
    return tuple([stead_of(atom, steads) for atom in atoms])


# Named is here and below a dict: by a function's name its new one.
def renamed_step(step, steads, named):
    name = stead_of(("of", step[1]), steads)[1]
    aimed = named.get(step[2], step[2]) if step[0] == "call" else step[2]
    return (step[0], name, aimed, steads_of(step[3], steads))


def renamed_end(end, steads, named):
    if end[0] == "fail":
        return end
    if end[0] == "go":
        return ("go", named.get(end[1], end[1]), steads_of(end[2], steads))
    atom = stead_of(end[1], steads)
    if end[0] == "give":
        return ("give", atom)
    return ("if", atom, renamed_block(end[2], steads, named), renamed_block(end[3], steads, named))


# The stead of a step's name must be a name again: the step bears it, too.
def renamed_block(block, steads, named):
    steps = tuple([renamed_step(step, steads, named) for step in block[0]])
    return (steps, renamed_end(block[1], steads, named))


# By each function's name those that it aims at, each once, as they are first met.
def aimed_names(functions):
    aimed = {}
    for name in functions:
        aimed[name] = list(marked([aim[0] for aim in aims_of(functions[name][2])]))
    return aimed


# The main function's name and those that can be come to from it, as they are
# first met; functions is a dict by their names.
def met_names(functions, main):
    return found_from(main, aimed_names(functions), {main: main})


def renamed_function(function, named):
    steads = {}
    for place, name in enumerate(function[1] + steps_of(function[2])):
        steads[name] = ("of", f"v{place}")
    params = tuple([steads[param][1] for param in function[1]])
    return (named[function[0]], params, renamed_block(function[2], steads, named))


# A program of those functions that are met, in this order and named by it.
def renamed(functions, main):
    met = met_names(functions, main)
    named = {}
    for place, name in enumerate(met):
        named[name] = f"q{place}"
    return tuple([renamed_function(functions[name], named) for name in met])
