"""Values: numbers, words, rows and records, their parts and their weight."""

# 10 ** 18: a number is a value where it lies between this and its negative.
NUMBER_BOUND = 1000000000000000000
LETTERS = "abcdefghijklmnopqrstuvwxyz"
MOST_SIGNS = 8
MOST_PARTS = 60


def in_bounds(number):
    return -NUMBER_BOUND < number < NUMBER_BOUND


def is_word(thing):
    if not isinstance(thing, str) or not 1 <= len(thing) <= MOST_SIGNS:
        return False
    return all([sign in LETTERS for sign in thing])


# The things that stand straight within a row or a record; none in all else.
def things_within(thing):
    if isinstance(thing, tuple):
        return list(thing)
    if isinstance(thing, dict):
        return list(thing.values())
    return []


def kind_of(value):
    if isinstance(value, str):
        return "word"
    if isinstance(value, tuple):
        return "row"
    if isinstance(value, dict):
        return "record"
    return "number"


# The thing itself and all that stands within it, each as often as it stands.
# No function calls itself here, so that no depth of nesting is too deep.
def all_within(thing):
    found = [thing]
    place = 0
    while place < len(found):
        found.extend(things_within(found[place]))
        place += 1
    return found


def parts(value):
    return len(all_within(value))


# Whether the thing may stand as a part of a value, whatever stands within it.
def may_stand(thing):
    # Python counts a truth as a whole number, but a truth is no value.
    if isinstance(thing, bool):
        return False
    if isinstance(thing, int):
        return in_bounds(thing)
    if isinstance(thing, str):
        return is_word(thing)
    if isinstance(thing, dict):
        return all([is_word(key) for key in thing])
    return isinstance(thing, tuple)


def is_value(thing):
    found = all_within(thing)
    return len(found) <= MOST_PARTS and all([may_stand(part) for part in found])


# What a part adds to the weight beside the weights of what stands within it.
def own_weight(part):
    kind = kind_of(part)
    if kind == "number":
        return max(part, 0) + 1
    if kind == "row":
        return 1 + len(part)
    return 1


def weight(value):
    return sum([own_weight(part) for part in all_within(value)])
