"""Paper: whether making ends, how many keys it meets at most, and what to hold so that it does."""

from foreknown.falling import wild
from foreknown.loops import in_loops, loop_from
from foreknown.partings import aimed_pairs, best, known_params, marked
from foreknown.shapes import functions_by_name, values_of
from foreknown.values import weight


# By the pair (FUNCTION, BITS) of each form the pairs of the forms that it
# calls, each as often as it is aimed at.
def called_pairs(program, parting):
    functions = functions_by_name(program)
    called = {}
    for form in parting:
        called[(form[0], form[1])] = aimed_pairs(functions[form[0]], form[3])
    return called


# The spots stand in the forms' and the params' order, so the first one of a
# form in a loop is the one that is asked for.
def paper(program, parting):
    called = called_pairs(program, parting)
    looping = in_loops(called)
    for function, bits, param in wild(program, parting):
        if (function, bits) in looping:
            return ("loop", param, loop_from((function, bits), called))
    return ("ends", None, ())


def power(base, times):
    product = 1
    for turn in range(times):
        product = product * base
    return product


def total_weight(program, known):
    return sum([weight(value) for value in known + values_of(program)])


# How often each of these pairs is aimed at, by any form.
def aims_at(pairs, called):
    numbers = {}
    for pair in pairs:
        numbers[pair] = 0
    for form_pair in called:
        for aimed in called[form_pair]:
            if aimed in numbers:
                numbers[aimed] += 1
    return numbers


# Hands each count on to the wild forms. One of those is handed on itself once
# all that aim at it have handed theirs: so each is reckoned once, and all are,
# where none of them is in a loop.
def hand_on(reckoned, wild_pairs, called):
    awaited = aims_at(wild_pairs, called)
    ready = [pair for pair in reckoned if pair not in awaited]
    while len(ready) > 0:
        pair = ready.pop()
        for aimed in called[pair]:
            if aimed in awaited:
                reckoned[aimed] += reckoned[pair]
                awaited[aimed] -= 1
                if awaited[aimed] == 0:
                    ready.append(aimed)


def counts(program, parting, known):
    functions = functions_by_name(program)
    wild_pairs = marked([(function, bits) for function, bits, param in wild(program, parting)])
    base = total_weight(program, known)
    reckoned = {}
    for form in parting:
        pair = (form[0], form[1])
        if pair not in wild_pairs:
            reckoned[pair] = power(base, len(known_params(functions[form[0]], form[1])))
        else:
            # The run's own beginning hands on once to the first form.
            reckoned[pair] = 1 if len(reckoned) == 0 else 0
    hand_on(reckoned, wild_pairs, called_pairs(program, parting))
    return tuple([reckoned[(form[0], form[1])] for form in parting])


def steady(program, bits):
    held = ()
    told = paper(program, best(program, bits, held))
    while told[0] == "loop":
        held = held + ((told[2][0][0], told[1]),)
        told = paper(program, best(program, bits, held))
    return held
