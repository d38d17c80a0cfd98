"""The seventeen ops: each takes values and tells a value or a fault."""

from foreknown.errors import Fault, NoOp
from foreknown.values import MOST_PARTS, in_bounds, kind_of, parts


def within_bounds(number):
    if not in_bounds(number):
        raise Fault("wide")
    return number


def number_of(truth):
    return 1 if truth else 0


def tell_add(values):
    return within_bounds(values[0] + values[1])


def tell_sub(values):
    return within_bounds(values[0] - values[1])


def tell_mul(values):
    return within_bounds(values[0] * values[1])


def tell_div(values):
    if values[1] == 0:
        raise Fault("nought")
    return values[0] // values[1]


def tell_rem(values):
    if values[1] == 0:
        raise Fault("nought")
    return values[0] % values[1]


def tell_less(values):
    return number_of(values[0] < values[1])


def tell_same(values):
    return number_of(values[0] == values[1])


def tell_down(values):
    if values[0] < 1:
        raise Fault("low")
    return values[0] - 1


def tell_kind(values):
    return kind_of(values[0])


def tell_front(values):
    return (values[0],) + values[1]


def filled(row):
    if len(row) == 0:
        raise Fault("empty")
    return row


def tell_head(values):
    return filled(values[0])[0]


def tell_rest(values):
    return filled(values[0])[1:]


def tell_many(values):
    return len(values[0])


# Asked for ahead of any index: Python takes an index below 0 from the end.
def place_in(row, number):
    if not 0 <= number < len(row):
        raise Fault("place")
    return number


def tell_item(values):
    row = values[0]
    return row[place_in(row, values[1])]


def tell_put(values):
    row = values[0]
    place = place_in(row, values[1])
    return row[:place] + (values[2],) + row[place + 1:]


def tell_field(values):
    record = values[0]
    if values[1] not in record:
        raise Fault("field")
    return record[values[1]]


# A record that was handed in must stay as it was, so a copy is changed.
def tell_set(values):
    record = dict(values[0])
    record[values[1]] = values[2]
    return record


# By each op's word: the kinds of the values that it takes, and what tells.
OPS = {
    "add": (("number", "number"), tell_add),
    "sub": (("number", "number"), tell_sub),
    "mul": (("number", "number"), tell_mul),
    "div": (("number", "number"), tell_div),
    "rem": (("number", "number"), tell_rem),
    "less": (("number", "number"), tell_less),
    "same": (("any", "any"), tell_same),
    "down": (("number",), tell_down),
    "kind": (("any",), tell_kind),
    "front": (("any", "row"), tell_front),
    "head": (("row",), tell_head),
    "rest": (("row",), tell_rest),
    "many": (("row",), tell_many),
    "item": (("row", "number"), tell_item),
    "put": (("row", "number", "any"), tell_put),
    "field": (("record", "word"), tell_field),
    "set": (("record", "word", "any"), tell_set),
}
FALLING = ("down", "head", "rest", "item", "field")
FAULTLESS = ("same", "kind")


def check_kinds(kinds, values):
    for kind, value in zip(kinds, values):
        if kind != "any" and kind != kind_of(value):
            raise Fault("kind")


# What an if asks of its atom's value: whether it goes on in its first block.
def chooses_first(value):
    check_kinds(("number",), (value,))
    return value != 0


class Op:
    def __init__(self, word):
        self.word = word
        self.many = len(OPS[word][0])

    # Kinds come ahead of all other faults, the size of what is told behind.
    def answer(self, values):
        check_kinds(OPS[self.word][0], values)
        tell = OPS[self.word][1]
        told = tell(values)
        if parts(told) > MOST_PARTS:
            raise Fault("large")
        return told

    def falls(self):
        return self.word in FALLING

    def never_faults(self):
        return self.word in FAULTLESS


def op_of(word):
    if word not in OPS:
        raise NoOp(word)
    return Op(word)
