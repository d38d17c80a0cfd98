"""The whole: of a text and of what is given ahead, the text of what is left over."""

from foreknown.errors import WrongCount
from foreknown.maker import make
from foreknown.paper import steady
from foreknown.partings import best, bits_of
from foreknown.reading import read
from foreknown.tidier import tidied
from foreknown.writing import show

MOST_KEYS = 200


# Given is a tuple with a value, or None where it comes later, for each param of
# the main function.
def left_over(program, given):
    bits = bits_of([one is None for one in given])
    parting = best(program, bits, steady(program, bits))
    known = tuple([one for one in given if one is not None])
    return tidied(make(program, parting, known, MOST_KEYS)[0])


def foreknown(text, given):
    program = read(text)
    main = program[0]
    if len(given) != len(main[1]):
        raise WrongCount(main[0], main[0])
    return show(left_over(program, given))
