"""Values: numbers, words, rows and records, their parts and their weight."""

# 10 ** 18: a number is a value where it lies between this and its negative.
NUMBER_BOUND = 1000000000000000000
LETTERS = "abcdefghijklmnopqrstuvwxyz"
MOST_SIGNS = 8
MOST_PARTS = 60


def in_bounds(number):
    return -NUMBER_BOUND < number < NUMBER_BOUND


def is_word(thing):
    if not isinstance(thing, str) or not 1 <= len(thing) <= MOST_SIGNS:
        return False
    return all([sign in LETTERS for sign in thing])


# The things that stand straight within a row or a record; none in all else.
def things_within(thing):
    if isinstance(thing, tuple):
        return list(thing)
    if isinstance(thing, dict):
        return list(thing.values())
    return []


def kind_of(value):
    if isinstance(value, str):
        return "word"
    if isinstance(value, tuple):
        return "row"
    if isinstance(value, dict):
        return "record"
    return "number"


# Parts are walked with a list of what is still to come, not by functions that
# call themselves, so that no depth of nesting is too deep.
def parts(value):
    total = 0
    pending = [value]
    while pending:
        piece = pending.pop()
        total += 1
        pending.extend(things_within(piece))
    return total


# Whether the thing may stand as a part of a value, whatever stands within it.
def may_stand(thing):
    # Python counts a truth as a whole number, but a truth is no value.
    if isinstance(thing, bool):
        return False
    if isinstance(thing, int):
        return in_bounds(thing)
    if isinstance(thing, str):
        return is_word(thing)
    if isinstance(thing, dict):
        return all([is_word(key) for key in thing])
    return isinstance(thing, tuple)


def is_value(thing):
    total = 0
    pending = [thing]
    while pending:
        piece = pending.pop()
        total += 1
        if total > MOST_PARTS or not may_stand(piece):
            return False
        pending.extend(things_within(piece))
    return True


# What a part adds to the weight beside the weights of what stands within it.
def own_weight(part):
    kind = kind_of(part)
    if kind == "number":
        return max(part, 0) + 1
    if kind == "row":
        return 1 + len(part)
    return 1


def weight(value):
    total = 0
    pending = [value]
    while pending:
        piece = pending.pop()
        total += own_weight(piece)
        pending.extend(things_within(piece))
    return total
