"""The maker: what is ahead is done with the known values, what is later is left over as a program."""

from foreknown.checker import broken
from foreknown.errors import Fault, NotLetBy, TooMany
from foreknown.ops import chooses_first, op_of
from foreknown.partings import is_later_at, known_params, later_params, marked
from foreknown.shapes import aims_of, functions_by_name
from foreknown.things import Known, Later, thing_of
from foreknown.writing import show_value


# The keys in the order in which they are met.
class KeyRing:
    def __init__(self, limit):
        self.limit = limit
        self.met = []
        self.names = {}

    # The name of the function that is made for the key. A record can't stand
    # as a dict's key, but values are the same just where they are written so.
    def name_for(self, key):
        shown = (key[0], key[1], show_value(key[2]))
        if shown not in self.names:
            number = len(self.met)
            if number == self.limit:
                raise TooMany(self.limit)
            self.met.append(key)
            self.names[shown] = f"q{number}"
        return self.names[shown]


# One function as it is made for one key. None of its names is twice, so one
# dict of things serves all of its blocks.
class Making:
    def __init__(self, ring, function, form, values):
        self.ring = ring
        self.later = marked(form[2])
        self.goals = form[3]
        self.things = {}
        for param, value in zip(known_params(function, form[1]), values):
            self.things[param] = Known(value)
        for param in later_params(function, form[1]):
            self.things[param] = Later(param)

    def things_at(self, atoms):
        return [thing_of(atom, self.things) for atom in atoms]

    def answer_ahead(self, step):
        return op_of(step[2]).answer(tuple([thing.value for thing in self.things_at(step[3])]))

    # A call's or a go's function and atoms as they are left.
    def left_aim(self, name, atoms, goal):
        values = []
        left = []
        for place, thing in enumerate(self.things_at(atoms)):
            if is_later_at(goal, place):
                left.append(thing.atom())
            else:
                values.append(thing.value)
        return (self.ring.name_for((name, goal, tuple(values))), tuple(left))

    def left_let(self, step):
        atoms = tuple([thing.atom() for thing in self.things_at(step[3])])
        self.things[step[1]] = Later(step[1])
        return ("let", step[1], step[2], atoms)

    # Place is here and below how many of the function's calls and goes stand
    # ahead: it tells the goal.
    def left_call(self, step, place):
        aim = self.left_aim(step[2], step[3], self.goals[place])
        self.things[step[1]] = Later(step[1])
        return ("call", step[1], aim[0], aim[1])

    def left_go(self, end, place):
        aim = self.left_aim(end[1], end[2], self.goals[place])
        return ("go", aim[0], aim[1])

    def made_block(self, block, place):
        left = []
        for step in block[0]:
            if step[0] == "call":
                left.append(self.left_call(step, place))
                place += 1
            elif step[1] in self.later:
                left.append(self.left_let(step))
            else:
                try:
                    self.things[step[1]] = Known(self.answer_ahead(step))
                except Fault as fault:
                    return (tuple(left), ("fail", fault.word))
        behind = self.made_end(block[1], place)
        return (tuple(left) + behind[0], behind[1])

    # What comes of an end is a block: a decided if brings steps with it.
    def made_end(self, end, place):
        if end[0] == "fail":
            return ((), end)
        if end[0] == "go":
            return ((), self.left_go(end, place))
        thing = thing_of(end[1], self.things)
        if end[0] == "give":
            return ((), ("give", thing.atom()))
        if thing.ahead():
            return self.decided(end, thing.value, place)
        first = self.made_block(end[2], place)
        second = self.made_block(end[3], place + len(aims_of(end[2])))
        return ((), ("if", thing.atom(), first, second))

    def decided(self, end, value, place):
        try:
            first = chooses_first(value)
        except Fault as fault:
            return ((), ("fail", fault.word))
        if first:
            return self.made_block(end[2], place)
        return self.made_block(end[3], place + len(aims_of(end[2])))


def forms_by_pair(parting):
    forms = {}
    for form in parting:
        forms[(form[0], form[1])] = form
    return forms


def made_function(ring, key, function, form):
    making = Making(ring, function, form, key[2])
    return (ring.name_for(key), later_params(function, form[1]), making.made_block(function[2], 0))


def make(program, parting, known, limit):
    row = broken(program, parting)
    if row is not None:
        raise NotLetBy(row)
    functions = functions_by_name(program)
    forms = forms_by_pair(parting)
    ring = KeyRing(limit)
    ring.name_for((parting[0][0], parting[0][1], known))
    made = []
    while len(made) < len(ring.met):
        key = ring.met[len(made)]
        made.append(made_function(ring, key, functions[key[0]], forms[(key[0], key[1])]))
    return (tuple(made), tuple(ring.met))
