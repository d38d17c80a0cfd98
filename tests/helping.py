"""What several tests need: comparing kind by kind, programs in short, and programs by chance."""

import copy
import random
import unittest

from foreknown.checks import check
from foreknown.reading import read
from foreknown.runner import run
from foreknown.shapes import function_by, lines_of, steps_of

WORDS = ("add", "sub", "mul", "div", "rem", "less", "same", "down", "kind", "front",
         "head", "rest", "many", "item", "put", "field", "set")

BOUND = 10 ** 18


def plain(thing):
    """A text that tells things apart also where == doesn't (1 and True).

    The order of a dict's parts is not told: records are the same without it.
    """
    if isinstance(thing, dict):
        parts = sorted(f"{plain(key)}:{plain(thing[key])}" for key in thing)
        return "dict{" + ",".join(parts) + "}"
    if isinstance(thing, (tuple, list)):
        return type(thing).__name__ + "(" + ",".join(plain(part) for part in thing) + ")"
    return type(thing).__name__ + " " + repr(thing)


def nested(depth, wrap, inmost):
    thing = inmost
    for _ in range(depth):
        thing = wrap(thing)
    return thing


def in_row(thing):
    return (thing,)


def in_record(thing):
    return {"a": thing}


def in_list(thing):
    return [thing]


def letters(count):
    """So many unlike words of two letters."""
    alphabet = "abcdefghijklmnopqrstuvwxyz"
    return [alphabet[k // 26] + alphabet[k % 26] for k in range(count)]


def pieces(whole):
    """All pieces of a value, unlike ones only, straight from [4]."""
    found = []
    pending = [whole]
    while pending:
        piece = pending.pop()
        if piece in found:
            continue
        found.append(piece)
        if isinstance(piece, int) and piece >= 1:
            pending.append(piece - 1)
        elif isinstance(piece, tuple) and piece:
            pending.append(piece[1:])
            pending.extend(piece)
        elif isinstance(piece, dict):
            pending.extend(piece.values())
    return found


def value(thing):
    return ("is", thing)


def of(name):
    return ("of", name)


def let(name, op, *atoms):
    return ("let", name, op, atoms)


def call(name, function, *atoms):
    return ("call", name, function, atoms)


def give(atom):
    return ("give", atom)


def go(function, *atoms):
    return ("go", function, atoms)


def fail(word):
    return ("fail", word)


def when(atom, first, second):
    return ("if", atom, first, second)


def block(*lines):
    """The last line is the block's end, all others are its steps."""
    return (lines[:-1], lines[-1])


def function(name, params, *lines):
    """The params stand in one text, with blanks between."""
    return (name, tuple(params.split()), block(*lines))


def program_of(text):
    """The program of a text that may stand indented."""
    return read("\n".join(line.strip() for line in text.strip().split("\n")))


def many_functions(count):
    """A sound program of so many functions, each going to the next one."""
    goers = [function(f"f{k}", "a", go(f"f{k + 1}", of("a"))) for k in range(count - 1)]
    return tuple(goers) + (function(f"f{count - 1}", "a", give(of("a"))),)


def long_function(lines):
    """A function of so many lines, without ifs."""
    steps = [let(f"s{k}", "add", of("a"), value(k)) for k in range(lines - 1)]
    return function("long", "a", *steps, give(of("a")))


def ifs_within(depth, side):
    """A block with so many ifs within one another, each next one in the first
    (side 0) or the second (side 1) block of the one around it."""
    made = block(let("in", "down", value(9)), give(of("in")))
    for level in range(depth, 0, -1):
        beside = block(let(f"b{level}", "kind", value(level)), fail("stop"))
        blocks = (made, beside) if side == 0 else (beside, made)
        made = block(let(f"a{level}", "same", value(level), value(())), when(of(f"a{level}"), *blocks))
    return made


# Values beside the texts that they are written as.
WRITTEN = (
    (0, "0"), (1, "1"), (-1, "-1"), (10, "10"), (-10, "-10"), (900, "900"), (1234567890, "1234567890"),
    (10 ** 17, "100000000000000000"), (BOUND - 1, "999999999999999999"), (1 - BOUND, "-999999999999999999"),
    ("a", "'a"), ("z", "'z"), ("abcdefgh", "'abcdefgh"), ("number", "'number"),
    ((), "[]"), ((1,), "[1]"), ((1, -2, 0), "[1,-2,0]"), (("a", "b"), "['a,'b]"), (((),), "[[]]"),
    (((), ()), "[[],[]]"), ((((1,), "a"), {}), "[[[1],'a],{}]"), (({}, {}), "[{},{}]"),
    ({}, "{}"), ({"a": 1}, "{a:1}"), ({"a": 1, "b": "c"}, "{a:1,b:'c}"), ({"b": 1, "a": 2}, "{a:2,b:1}"),
    ({"b": {"d": 1, "c": ()}, "a": {}}, "{a:{},b:{c:[],d:1}}"), ({"a": -5}, "{a:-5}"),
    ({"c": 1, "b": 2, "a": 3}, "{a:3,b:2,c:1}"), ({"ab": 1, "b": 2, "a": 3, "aa": 4}, "{a:3,aa:4,ab:1,b:2}"),
    ({"z": 0, "abcdefgh": 1, "y": 2}, "{abcdefgh:1,y:2,z:0}"), (({"b": (1,), "a": "w"}, 2), "[{a:'w,b:[1]},2]"),
    ((1,) * 59, "[" + ",".join(["1"] * 59) + "]"), (((),) * 59, "[" + ",".join(["[]"] * 59) + "]"),
    ({word: "w" for word in reversed(letters(59))}, "{" + ",".join(word + ":'w" for word in letters(59)) + "}"),
    (nested(59, in_row, ()), "[" * 60 + "]" * 60), (nested(59, in_row, -7), "[" * 59 + "-7" + "]" * 59),
    (nested(59, in_record, {}), "{a:" * 59 + "{}" + "}" * 59),
)

# Values that each op takes without a fault, and others of which it makes one.
GOOD = {
    "add": (2, 3), "sub": (2, 3), "mul": (2, 3), "div": (7, 2), "rem": (7, 2), "less": (1, 2), "same": (1, (1,)),
    "down": (3,), "kind": ((),), "front": (1, (2,)), "head": ((1, 2),), "rest": ((1, 2),), "many": ((1, 2),),
    "item": ((1, 2), 1), "put": ((1, 2), 1, "a"), "field": ({"a": 1}, "a"), "set": ({"a": 1}, "b", 2),
}
FAULTY = (
    ("add", (BOUND - 1, 1), "wide"), ("sub", (1 - BOUND, 1), "wide"), ("mul", (BOUND - 1, 2), "wide"),
    ("mul", (BOUND - 1, ()), "kind"), ("div", (1, 0), "nought"), ("div", ("a", 0), "kind"), ("rem", (1, 0), "nought"),
    ("less", ("a", 1), "kind"), ("down", (0,), "low"), ("down", (-3,), "low"), ("front", (1, 2), "kind"),
    ("front", (1, (1,) * 59), "large"), ("head", ((),), "empty"), ("rest", ((),), "empty"), ("many", (1,), "kind"),
    ("item", ((1, 2), 2), "place"), ("put", ((1, 2), -1, "a"), "place"), ("put", ((1,) * 59, 0, (1,)), "large"),
    ("field", ({}, "a"), "field"), ("set", ({}, 1, 2), "kind"), ("set", ({}, "a", (1,) * 59), "large"),
)

# Some values of each kind.
SOME = (0, 1, -1, 7, BOUND - 1, "a", "row", (), (3,), (1, "a", ()), {}, {"a": 1}, {"b": (2, 3), "a": "w"})

# Every step and every end, ifs within one another, and names that are words of
# the writing themselves; beneath it the text that it is written as.
EVERY = (
    function("main", "a b c d e f",
             let("n1", "add", of("a"), value(-1)), let("n2", "sub", value(3), of("n1")),
             let("n3", "mul", of("n1"), of("n2")), let("n4", "div", of("n3"), value(2)),
             let("n5", "rem", of("n3"), value(2)), let("n6", "less", of("n4"), of("n5")),
             let("n7", "same", of("b"), value("word")), let("n8", "down", value(10 ** 18 - 1)),
             let("n9", "kind", of("c")), let("r1", "front", of("a"), of("d")), let("r2", "head", of("r1")),
             let("r3", "rest", of("r1")), let("r4", "many", value((1, ("a",), {}))),
             let("r5", "item", of("d"), value(0)), let("r6", "put", of("d"), of("a"), value({"b": 1, "a": ()})),
             let("c1", "field", of("e"), value("abcdefgh")), let("c2", "set", of("e"), value("w"), of("f")),
             call("k1", "none"), call("k2", "else", of("c2"), value(1 - 10 ** 18)),
             when(of("n6"),
                  block(let("x", "kind", of("k1")), when(value(0), block(go("none")), block(fail("fail")))),
                  block(when(of("n7"), block(give(of("k2"))),
                             block(call("y", "if", of("a")), go("else", of("y"), value(()))))))),
    function("none", "", give(value({}))),
    function("else", "fun give", let("go", "add", of("fun"), of("give")), let("fail", "add", of("go"), value(1)),
             call("if", "if", of("fail")), let("end", "down", of("if")), call("call", "call"),
             let("add", "add", of("end"), of("end")), let("let", "kind", of("add")), let("is", "kind", of("let")),
             let("else", "many", value(())),
             when(of("else"), block(let("of", "kind", of("call")), give(of("of"))),
                  block(let("set", "head", value((1,))), go("call")))),
    function("if", "if", give(of("if"))),
    function("call", "", fail("else")),
)

EVERY_TEXT = """fun main a b c d e f
n1 = add a -1
n2 = sub 3 n1
n3 = mul n1 n2
n4 = div n3 2
n5 = rem n3 2
n6 = less n4 n5
n7 = same b 'word
n8 = down 999999999999999999
n9 = kind c
r1 = front a d
r2 = head r1
r3 = rest r1
r4 = many [1,['a],{}]
r5 = item d 0
r6 = put d a {a:[],b:1}
c1 = field e 'abcdefgh
c2 = set e 'w f
k1 = call none
k2 = call else c2 -999999999999999999
if n6
x = kind k1
if 0
go none
else
fail fail
end
else
if n7
give k2
else
y = call if a
go else y []
end
end
fun none
give {}
fun else fun give
go = add fun give
fail = add go 1
if = call if fail
end = down if
call = call call
add = add end end
let = kind add
is = kind let
else = many []
if else
of = kind call
give of
else
set = head [1]
go call
end
fun if if
give if
fun call
fail else"""

# Each kind of line, ifs, goals back at the main function, and a function that
# none aims at.
MIXED = program_of("""
    fun main a b
    x = add a 1
    y = call f x b
    if y
    z = add x y
    go main z b
    else
    w = mul x x
    v = call g w
    go f v w
    end
    fun idle a
    go idle a
    fun f p q
    r = add p q
    give r
    fun g n
    if n
    m = down n
    go g m
    else
    give n
    end""")

# x to the power of n: n falls.
POWER = program_of("""
    fun main n x
    if n
    m = down n
    so = call main m x
    all = mul so x
    give all
    else
    give 1
    end""")

# A small machine: its code is a row of rows (WORD, NUMBER), it works on a number.
MACHINE = program_of("""
    fun main code n
    many = many code
    if many
    one = head code
    rest = rest code
    word = head one
    tail = rest one
    k = head tail
    up = same word 'add
    if up
    so = add n k
    go main rest so
    else
    up2 = same word 'loop
    if up2
    go loop one rest k n
    else
    so2 = mul n k
    go main rest so2
    end
    end
    else
    give n
    end
    fun loop one rest body n
    if n
    m = call main body n
    go loop one rest body m
    else
    go main rest n
    end""")

# In its loop n falls, so is wild.
SUMS = program_of("""
    fun main n x
    go loop n x 0
    fun loop n x so
    if n
    m = down n
    more = add so n
    odd = rem n 2
    if odd
    y = add x so
    go loop m y more
    else
    z = call twice x
    go loop m z more
    end
    else
    all = add x so
    give all
    end
    fun twice x
    y = add x x
    give y""")


def outcome(asked, arguments):
    """What a function tells, or the class and the fields of its refusal."""
    try:
        told = asked(*arguments)
    except ValueError as error:
        return "refused " + type(error).__name__ + plain(vars(error))
    return "told " + plain(told)


class Case(unittest.TestCase):
    def assert_same(self, told, expected, message=None):
        self.assertEqual(plain(told), plain(expected), message)

    def assert_refused(self, expected, fields, function, *arguments):
        """That a refusal of this class comes, with these fields."""
        try:
            told = function(*arguments)
        except expected as error:
            for field, value in fields.items():
                self.assert_same(getattr(error, field), value, arguments)
            return
        self.fail(f"{expected.__name__} was to come of {arguments!r}, told was {told!r}")

    def assert_unchanged(self, function, *arguments):
        """That what is handed in stays as it was, the order of dicts too."""
        before = repr(arguments)
        outcome(function, arguments)
        self.assertEqual(repr(arguments), before)

    def assert_tells_as(self, after, program, inputs, budget=400):
        """[26] that it tells what the program tells, in as many steps or fewer; tells whether
        that one told something."""
        told = run(program, inputs, budget)
        if told[0] != "out":
            again = run(after, inputs, told[2])
            self.assert_same(again[:2], told[:2], (program, inputs))
            self.assertLessEqual(again[2], told[2])
        return told[0] != "out"

    def assert_all_as(self, after, program, budget=400):
        """The same on inputs of all kinds; the program that comes is sound."""
        self.assertIsNone(check(after))
        for inputs in inputs_of_all_kinds(program):
            self.assert_tells_as(after, program, inputs, budget)

    def assert_steady(self, function, asked):
        """That each asking is told the same again, behind all the others too,
        and that what was told first is not changed by the later askings."""
        told = [function(*arguments) for arguments in asked]
        kept = copy.deepcopy(told)
        again = [function(*arguments) for arguments in reversed(asked)]
        self.assert_same(again[::-1], kept)
        self.assert_same(told, kept)
        self.assertEqual(repr(told), repr(kept))


# What each op takes and what it tells, mostly: n a number, w a word, r a row (of
# numbers), c a record (of numbers), x anything.
OP_KINDS = (
    ("add", "nn", "n"), ("sub", "nn", "n"), ("mul", "nn", "n"), ("div", "nn", "n"), ("rem", "nn", "n"),
    ("less", "nn", "n"), ("same", "xx", "n"), ("down", "n", "n"), ("kind", "x", "w"), ("front", "xr", "r"),
    ("head", "r", "n"), ("rest", "r", "r"), ("many", "r", "n"), ("item", "rn", "n"), ("put", "rnx", "r"),
    ("field", "cw", "n"), ("set", "cwx", "c"),
)


class Chance:
    """Sound programs and inputs by chance: of one seed the same ones each time.

    Names are mostly put where their kind is asked for, so that runs go on for
    some lines; calls and goes mostly aim at later functions, so that they end.
    """

    def __init__(self, seed, names=80):
        """In so many of a hundred atoms a fitting name stands, where there is one."""
        self.random = random.Random(seed)
        self.names = names

    def likely(self, hundredths):
        return self.random.randrange(100) < hundredths

    def value_of(self, kind):
        pick = self.random.choice
        if kind == "x" or self.likely(3):
            kind = pick("nnwrc")
        if kind == "n":
            return pick((-7, -1, 0, 0, 1, 1, 2, 2, 3, 3, 5, 10 ** 18 - 1))
        if kind == "w":
            return pick(("a", "a", "a", "b"))
        if kind == "r":
            return tuple(self.value_of("n") for _ in range(pick((0, 1, 2, 3, 3, 4))))
        words = self.random.sample(("a", "b", "ab"), pick((1, 2, 3, 3)))
        return {word: self.value_of("n") for word in words}

    def atom_of(self, kind, bound):
        fitting = [name for name, of_kind in bound if kind in ("x", of_kind)]
        if self.likely(3):
            fitting = [name for name, _ in bound]
        if fitting and self.likely(self.names):
            return of(self.random.choice(fitting))
        return value(self.value_of(kind))

    def program(self, most_functions=5, most_params=4):
        count = self.random.randrange(1, most_functions + 1)
        self.kinds = []
        for _ in range(count):
            params = [self.random.choice("nnnrrcw") for _ in range(self.random.randrange(most_params + 1))]
            self.kinds.append(params)
        return tuple(self.function(place) for place in range(count))

    def function(self, place):
        params = self.kinds[place]
        names = tuple("abcdef"[:len(params)])
        self.lines = 0
        return (f"f{place}", names, self.block(place, list(zip(names, params)), 0))

    def block(self, place, bound, depth):
        bound = list(bound)
        steps = []
        for _ in range(self.random.randrange(5)):
            self.lines += 1
            name = f"s{self.lines}"
            if self.may_aim(place) and self.likely(20):
                steps.append(("call", name) + self.aim(place, bound))
                bound.append((name, "n"))
            else:
                op, takes, tells = self.op()
                atoms = [self.atom_of(kind, bound) for kind in takes]
                if op in ("item", "put") and self.likely(80):
                    atoms[1] = value(0)
                steps.append(let(name, op, *atoms))
                bound.append((name, tells))
        return (tuple(steps), self.end(place, bound, depth))

    def op(self):
        """Those that often fault come less often."""
        op = self.random.choice(OP_KINDS)
        if op[0] in ("div", "rem", "down", "head", "rest", "item", "put", "field") and self.likely(50):
            op = self.random.choice(OP_KINDS)
        return op

    def may_aim(self, place):
        """The last function has no later one to aim at, so it seldom does."""
        return place + 1 < len(self.kinds) or self.likely(25)

    def aim(self, place, bound):
        aimed = self.random.randrange(len(self.kinds))
        if aimed <= place and not self.likely(15):
            aimed = min(place + 1, len(self.kinds) - 1)
        return (f"f{aimed}", tuple(self.atom_of(kind, bound) for kind in self.kinds[aimed]))

    def end(self, place, bound, depth):
        if depth < 3 and self.likely(55 - 15 * depth):
            atom = self.atom_of("n", bound)
            return when(atom, self.block(place, bound, depth + 1), self.block(place, bound, depth + 1))
        if self.may_aim(place) and self.likely(45):
            return ("go",) + self.aim(place, bound)
        if self.likely(8):
            return fail(self.random.choice(("stop", "kind", "wide")))
        return give(self.atom_of(self.random.choice("nnrc"), bound))

    def inputs(self):
        """Inputs for the main function of the program that was told last."""
        return tuple(self.value_of(kind) for kind in self.kinds[0])

    def bits(self, function):
        """Bits of that function's params."""
        return self.random.randrange(1 << len(function[1]))


def by_chance(count, first_seed=0, names=80, most_functions=5):
    """So many times a Chance with a sound program of it."""
    for seed in range(first_seed, first_seed + count):
        chance = Chance(seed, names)
        yield chance, chance.program(most_functions)


def inputs_of_all_kinds(program):
    """Tuples of inputs for the main function, in which each of SOME stands at each param."""
    count = len(program[0][1])
    if count == 0:
        return [()]
    return [tuple(SOME[(start + k * turn) % len(SOME)] for k in range(count))
            for start in range(len(SOME)) for turn in (0, 1, 3)]


def is_named(atom, names):
    return atom[0] == "of" and atom[1] in names


def needed(atoms, later):
    return sum(1 << k for k, atom in enumerate(atoms) if is_named(atom, later))


def later_in(program, form):
    """The names that are later in the form, params and steps."""
    params = function_by(program, form[0])[1]
    return {param for k, param in enumerate(params) if form[1] >> k & 1} | set(form[2])


def parting_from(program, bits, later_let, more_bits):
    """A parting that is let by, of the forms that are met from the main function on.

    What must be later is; a let is, too, where later_let(FUNCTION, NAME) says so,
    and a goal has more_bits(FUNCTION AIMED AT) beside its need.
    """
    met = [(program[0][0], bits)]
    forms = []
    for name, of_bits in met:
        params, body = function_by(program, name)[1:]
        later = {param for k, param in enumerate(params) if of_bits >> k & 1}
        steps, goals = [], []
        for line in lines_of(body):
            if line[0] == "call" or line[0] == "let" and (needed(line[3], later) or later_let(name, line[1])):
                steps.append(line[1])
            if line[0] in ("call", "go"):
                aimed, atoms = line[-2:]
                goal = needed(atoms, later) | more_bits(function_by(program, aimed))
                goals.append(goal)
                if (aimed, goal) not in met:
                    met.append((aimed, goal))
            later.update(steps)
        forms.append((name, of_bits, tuple(steps), tuple(goals)))
    return tuple(forms)


def parting_held(program, bits, held):
    """The words of [16] once more."""
    def more_bits(aimed):
        return sum(1 << k for k, param in enumerate(aimed[1]) if (aimed[0], param) in held)
    return parting_from(program, bits, lambda name, step: (name, step) in held, more_bits)


def loose_parting(chance, program, bits, hundredths=25):
    """A parting that is let by, with more later than need be, by chance."""
    def more_bits(aimed):
        return sum(1 << k for k in range(len(aimed[1])) if chance.likely(hundredths))
    return parting_from(program, bits, lambda name, step: chance.likely(hundredths), more_bits)


def names_of(function):
    return function[1] + steps_of(function[2])


def pairs_of(program):
    """All pairs of a function's name and the name of a param or a step of it."""
    return tuple((one[0], name) for one in program for name in names_of(one))


def of_bits(bits, inputs, later):
    """Those of the inputs that are later, or those that are known."""
    return tuple(one for k, one in enumerate(inputs) if (bits >> k & 1) == (1 if later else 0))


def all_bits(one):
    return (1 << len(one[1])) - 1


def all_params(program):
    return tuple((one[0], param) for one in program for param in one[1])


def atoms_in(line):
    if line[0] in ("let", "call"):
        return line[3]
    if line[0] == "go":
        return line[2]
    return () if line[0] == "fail" else (line[1],)


def lines_and_outer(body, outer=0):
    """Each line of the block, with how many ifs it lies in."""
    yield from ((step, outer) for step in body[0])
    end = body[1]
    yield end, outer
    if end[0] == "if":
        yield from lines_and_outer(end[2], outer + 1)
        yield from lines_and_outer(end[3], outer + 1)


def aimed_in(body):
    """The names of the functions called and gone to, in the lines' order."""
    return [line[-2] for line, _ in lines_and_outer(body) if line[0] in ("call", "go")]


def met_in(program):
    """The functions' names as they are first met, by the words of [25]."""
    met = [program[0][0]]
    for name in met:
        for aimed in aimed_in(function_by(program, name)[2]):
            if aimed not in met:
                met.append(aimed)
    return met


def ifs_in(body):
    return max((outer + 1 for line, outer in lines_and_outer(body) if line[0] == "if"), default=0)


class Doable:
    """The words of [25] once more: which of the six things could be done."""

    def __init__(self, program):
        self.main = program[0][0]
        self.bodies = {name: body for name, _, body in program}
        self.aims = [aimed for one in program for aimed in aimed_in(one[2])]
        met = met_in(program)
        self.found = [("drop", name) for name in self.bodies if name not in met]
        for name, body in self.bodies.items():
            read_names = {atom[1] for line, _ in lines_and_outer(body) for atom in atoms_in(line) if atom[0] == "of"}
            for line, outer in lines_and_outer(body):
                self.look_at(name, line, outer, read_names)

    def gives_a_value(self, name):
        steps, end = self.bodies[name]
        return steps == () and end[0] == "give" and end[1][0] == "is"

    def look_at(self, name, line, outer, read_names):
        if line[0] in ("call", "go") and self.gives_a_value(line[-2]):
            self.found.append(("answer", name, line))
        if line[0] == "let" and all(atom[0] == "is" for atom in line[3]):
            self.found.append(("let", name, line))
        if line[0] == "let" and line[2] in ("same", "kind") and line[1] not in read_names:
            self.found.append(("idle", name, line))
        if line[0] == "if" and line[1][0] == "is":
            self.found.append(("if", name, line))
        if line[0] == "go" and line[1] not in (self.main, name) and self.aims.count(line[1]) == 1:
            here, there = self.bodies[name], self.bodies[line[1]]
            lines = len(list(lines_and_outer(here))) - 1 + len(list(lines_and_outer(there)))
            if lines <= 60 and max(ifs_in(here), outer + ifs_in(there)) <= 8:
                self.found.append(("join", name, line))


def can_be_done(program):
    return Doable(program).found


def is_put_in_order(program):
    """That its functions stand and are named as [25] tells at last."""
    return [one[0] for one in program] == met_in(program) == [f"q{k}" for k in range(len(program))] and all(
        names_of(one) == tuple(f"v{k}" for k in range(len(names_of(one)))) for one in program)


def command(word, at, other):
    """A command of a score; other is its number, its other jar or its body."""
    return {"do": word, "at": at, {"set": "n", "when": "body", "loop": "body"}.get(word, "from"): other}


def parts_in(thing):
    """How many parts it has, by [3]."""
    held = thing.values() if isinstance(thing, dict) else thing if isinstance(thing, tuple) else ()
    return 1 + sum(parts_in(part) for part in held)


class ScoreChance:
    """Scores and jars by chance: of one seed the same ones each time."""

    def __init__(self, seed):
        self.random = random.Random(seed)
        self.many = self.random.choice((1, 2, 3, 3, 4, 6, 20))

    def jars(self):
        numbers = (0, 0, 1, 1, 2, 3, 5, -1, 40, 10 ** 9, BOUND - 1, 1 - BOUND)
        return tuple(self.random.choice(numbers) for _ in range(self.many))

    def jar(self):
        """Seldom one that there isn't."""
        if self.random.randrange(60) == 0:
            return self.random.choice((-1, self.many, -BOUND + 1, BOUND - 1))
        return self.random.randrange(self.many)

    def score(self, commands=None):
        """A score of at most so many commands, bodies and all; loops mostly come to an end."""
        left = self.random.randrange(15) if commands is None else commands
        made = []
        while left > 0:
            word = self.random.choice(("set", "add", "sub", "mul", "when", "loop"))
            inner = self.random.randrange(left) if word in ("when", "loop") else 0
            made.append(self.command(word, inner))
            left -= 1 + inner
        return tuple(made)

    def command(self, word, inner):
        at = self.jar()
        if word == "set":
            return command(word, at, self.random.choice((0, 1, 2, 3, -4, 10 ** 9, BOUND - 1)))
        if word not in ("when", "loop"):
            return command(word, at, self.jar())
        body = self.score(inner)
        if word == "loop" and body and self.random.randrange(8):
            ending = self.random.choice((command("set", at, 0), command("sub", at, at), command("mul", at, self.jar())))
            body = body[:-1] + (ending,)
        return command(word, at, body)


def scores_by_chance(count, first_seed):
    """So many times a ScoreChance with a score of it, which has at most 60 parts."""
    for seed in range(first_seed, first_seed + count):
        chance = ScoreChance(seed)
        yield chance, chance.score()
