"""Paper: whether making ends, how many keys it meets at most, and what to hold so that it does."""

from foreknown.falling import wild
from foreknown.partings import aimed_pairs, best, known_params, marked
from foreknown.shapes import functions_by_name, values_of
from foreknown.values import weight


# By the pair (FUNCTION, BITS) of each form the pairs of the forms that it
# calls, each as often as it is aimed at.
def called_pairs(program, parting):
    functions = functions_by_name(program)
    called = {}
    for form in parting:
        called[(form[0], form[1])] = aimed_pairs(functions[form[0]], form[3])
    return called


# By each pair that can be come to from this one the pair ahead of it, on a
# shortest way.
def ways_from(pair, called):
    before = {}
    waiting = [pair]
    place = 0
    while place < len(waiting):
        here = waiting[place]
        for there in called[here]:
            if there not in before:
                before[there] = here
                waiting.append(there)
        place += 1
    return before


# The pairs along a shortest loop from this one back to it; None where it is in
# none.
def loop_from(pair, called):
    before = ways_from(pair, called)
    if pair not in before:
        return None
    loop = [pair, before[pair]]
    while loop[-1] != pair:
        loop.append(before[loop[-1]])
    return tuple(reversed(loop))


# The spots stand in the forms' and the params' order, so the first one of a
# form in a loop is the one that is asked for.
def paper(program, parting):
    called = called_pairs(program, parting)
    loops = {}
    for function, bits, param in wild(program, parting):
        pair = (function, bits)
        if pair not in loops:
            loops[pair] = loop_from(pair, called)
        if loops[pair] is not None:
            return ("loop", param, loops[pair])
    return ("ends", None, ())


def power(base, times):
    product = 1
    for turn in range(times):
        product = product * base
    return product


def total_weight(program, known):
    return sum([weight(value) for value in known + values_of(program)])


# How often each of these pairs is aimed at, by any form.
def aims_at(pairs, called):
    numbers = {}
    for pair in pairs:
        numbers[pair] = 0
    for form_pair in called:
        for aimed in called[form_pair]:
            if aimed in numbers:
                numbers[aimed] += 1
    return numbers


# Hands each count on to the wild forms. One of those is handed on itself once
# all that aim at it have handed theirs: so each is reckoned once, and all are,
# where none of them is in a loop.
def hand_on(reckoned, wild_pairs, called):
    awaited = aims_at(wild_pairs, called)
    ready = [pair for pair in reckoned if pair not in awaited]
    while len(ready) > 0:
        pair = ready.pop()
        for aimed in called[pair]:
            if aimed in awaited:
                reckoned[aimed] += reckoned[pair]
                awaited[aimed] -= 1
                if awaited[aimed] == 0:
                    ready.append(aimed)


def counts(program, parting, known):
    functions = functions_by_name(program)
    wild_pairs = marked([(function, bits) for function, bits, param in wild(program, parting)])
    base = total_weight(program, known)
    reckoned = {}
    for form in parting:
        pair = (form[0], form[1])
        if pair not in wild_pairs:
            reckoned[pair] = power(base, len(known_params(functions[form[0]], form[1])))
        else:
            # The run's own beginning hands on once to the first form.
            reckoned[pair] = 1 if len(reckoned) == 0 else 0
    hand_on(reckoned, wild_pairs, called_pairs(program, parting))
    return tuple([reckoned[(form[0], form[1])] for form in parting])


def steady(program, bits):
    held = ()
    told = paper(program, best(program, bits, held))
    while told[0] == "loop":
        held = held + ((told[2][0][0], told[1]),)
        told = paper(program, best(program, bits, held))
    return held
