"""What falls: the roots of atoms, and the params that aren't handed pieces alone."""

from foreknown.ops import op_of
from foreknown.partings import is_later_at
from foreknown.shapes import aims_of, functions_by_name, is_step, lines_of


def steps_by_name(function):
    steps = {}
    for line in lines_of(function[2]):
        if is_step(line):
            steps[line[1]] = line
    return steps


def is_falling(step):
    return step[0] == "let" and op_of(step[2]).falls()


def root_among(steps, atom):
    while atom[0] == "of" and atom[1] in steps and is_falling(steps[atom[1]]):
        atom = steps[atom[1]][3][0]
    if atom[0] == "is":
        return ("is", None)
    if atom[1] in steps:
        return ("made", atom[1])
    return atom


def root(function, atom):
    return root_among(steps_by_name(function), atom)


# By each function's name its calls and goes, each as the pair of the name that
# it aims at and the roots of the atoms that it hands on. They are the same in
# all forms of the function, so they are told once.
def rooted_aims(program):
    rooted = {}
    for function in program:
        steps = steps_by_name(function)
        rooted[function[0]] = [
            (aim[0], [root_among(steps, atom) for atom in aim[1]]) for aim in aims_of(function[2])
        ]
    return rooted


# A spot is a param of a form, (FUNCTION, BITS, PARAM). None stands for the spot
# from which all that is made comes.
def source_of(form, handed):
    if handed[0] == "made":
        return None
    return (form[0], form[1], handed[1])


# The pairs of spots (FROM, TO) over which one call or go hands something on to
# known params; values come from no spot.
def handings_of(form, target, roots, goal):
    pairs = []
    for place, param in enumerate(target[1]):
        if not is_later_at(goal, place) and roots[place][0] != "is":
            pairs.append((source_of(form, roots[place]), (target[0], goal, param)))
    return pairs


def handings(program, parting):
    functions = functions_by_name(program)
    rooted = rooted_aims(program)
    pairs = []
    for form in parting:
        for aim, goal in zip(rooted[form[0]], form[3]):
            pairs.extend(handings_of(form, functions[aim[0]], aim[1], goal))
    return pairs


# Only what can be come to from None is wild: so a ring of params that hand on
# to one another alone isn't.
def wild_spots(program, parting):
    onward = {}
    for source, target in handings(program, parting):
        onward.setdefault(source, []).append(target)
    found = {}
    waiting = [None]
    while len(waiting) > 0:
        here = waiting.pop()
        for spot in onward.get(here, []):
            if spot not in found:
                found[spot] = True
                waiting.append(spot)
    return found


def wild(program, parting):
    functions = functions_by_name(program)
    found = wild_spots(program, parting)
    spots = []
    for form in parting:
        params = functions[form[0]][1]
        spots.extend([(form[0], form[1], param) for param in params if (form[0], form[1], param) in found])
    return tuple(spots)
