"""The tidier: what can be done with a program as it stands is done, until nothing can."""

from foreknown.folding import fold_all, kept
from foreknown.joining import join_all
from foreknown.renaming import renamed
from foreknown.shapes import functions_by_name


# Folding and dropping come ahead of each joining, as what they take out may be
# what stands against it: lines, or other aims at the same function.
def tidied(program):
    main = program[0][0]
    functions = functions_by_name(program)
    changed = list(functions)
    while len(changed) > 0:
        fold_all(functions, changed)
        functions = kept(functions, main)
        changed = join_all(functions, main)
    return renamed(functions, main)
