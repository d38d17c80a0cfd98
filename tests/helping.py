"""What several tests need: comparing kind by kind, and programs in short."""

import copy
import unittest

WORDS = ("add", "sub", "mul", "div", "rem", "less", "same", "down", "kind", "front",
         "head", "rest", "many", "item", "put", "field", "set")

BOUND = 10 ** 18


def plain(thing):
    """A text that tells things apart also where == doesn't (1 and True).

    The order of a dict's parts is not told: records are the same without it.
    """
    if isinstance(thing, dict):
        parts = sorted(f"{plain(key)}:{plain(thing[key])}" for key in thing)
        return "dict{" + ",".join(parts) + "}"
    if isinstance(thing, (tuple, list)):
        return type(thing).__name__ + "(" + ",".join(plain(part) for part in thing) + ")"
    return type(thing).__name__ + " " + repr(thing)


def nested(depth, wrap, inmost):
    thing = inmost
    for _ in range(depth):
        thing = wrap(thing)
    return thing


def in_row(thing):
    return (thing,)


def in_record(thing):
    return {"a": thing}


def in_list(thing):
    return [thing]


def letters(count):
    """So many unlike words of two letters."""
    alphabet = "abcdefghijklmnopqrstuvwxyz"
    return [alphabet[k // 26] + alphabet[k % 26] for k in range(count)]


def value(thing):
    return ("is", thing)


def of(name):
    return ("of", name)


def let(name, op, *atoms):
    return ("let", name, op, atoms)


def call(name, function, *atoms):
    return ("call", name, function, atoms)


def give(atom):
    return ("give", atom)


def go(function, *atoms):
    return ("go", function, atoms)


def fail(word):
    return ("fail", word)


def when(atom, first, second):
    return ("if", atom, first, second)


def block(*lines):
    """The last line is the block's end, all others are its steps."""
    return (lines[:-1], lines[-1])


def function(name, params, *lines):
    """The params stand in one text, with blanks between."""
    return (name, tuple(params.split()), block(*lines))


def many_functions(count):
    """A sound program of so many functions, each going to the next one."""
    goers = [function(f"f{k}", "a", go(f"f{k + 1}", of("a"))) for k in range(count - 1)]
    return tuple(goers) + (function(f"f{count - 1}", "a", give(of("a"))),)


def long_function(lines):
    """A function of so many lines, without ifs."""
    steps = [let(f"s{k}", "add", of("a"), value(k)) for k in range(lines - 1)]
    return function("long", "a", *steps, give(of("a")))


def ifs_within(depth, side):
    """A block with so many ifs within one another, each next one in the first
    (side 0) or the second (side 1) block of the one around it."""
    made = block(let("in", "down", value(9)), give(of("in")))
    for level in range(depth, 0, -1):
        beside = block(let(f"b{level}", "kind", value(level)), fail("stop"))
        blocks = (made, beside) if side == 0 else (beside, made)
        made = block(let(f"a{level}", "same", value(level), value(())), when(of(f"a{level}"), *blocks))
    return made


# Values beside the texts that they are written as.
WRITTEN = (
    (0, "0"), (1, "1"), (-1, "-1"), (10, "10"), (-10, "-10"), (900, "900"), (1234567890, "1234567890"),
    (10 ** 17, "100000000000000000"), (BOUND - 1, "999999999999999999"), (1 - BOUND, "-999999999999999999"),
    ("a", "'a"), ("z", "'z"), ("abcdefgh", "'abcdefgh"), ("number", "'number"),
    ((), "[]"), ((1,), "[1]"), ((1, -2, 0), "[1,-2,0]"), (("a", "b"), "['a,'b]"), (((),), "[[]]"),
    (((), ()), "[[],[]]"), ((((1,), "a"), {}), "[[[1],'a],{}]"), (({}, {}), "[{},{}]"),
    ({}, "{}"), ({"a": 1}, "{a:1}"), ({"a": 1, "b": "c"}, "{a:1,b:'c}"), ({"b": 1, "a": 2}, "{a:2,b:1}"),
    ({"b": {"d": 1, "c": ()}, "a": {}}, "{a:{},b:{c:[],d:1}}"), ({"a": -5}, "{a:-5}"),
    ({"c": 1, "b": 2, "a": 3}, "{a:3,b:2,c:1}"), ({"ab": 1, "b": 2, "a": 3, "aa": 4}, "{a:3,aa:4,ab:1,b:2}"),
    ({"z": 0, "abcdefgh": 1, "y": 2}, "{abcdefgh:1,y:2,z:0}"), (({"b": (1,), "a": "w"}, 2), "[{a:'w,b:[1]},2]"),
    ((1,) * 59, "[" + ",".join(["1"] * 59) + "]"), (((),) * 59, "[" + ",".join(["[]"] * 59) + "]"),
    ({word: "w" for word in reversed(letters(59))}, "{" + ",".join(word + ":'w" for word in letters(59)) + "}"),
    (nested(59, in_row, ()), "[" * 60 + "]" * 60), (nested(59, in_row, -7), "[" * 59 + "-7" + "]" * 59),
    (nested(59, in_record, {}), "{a:" * 59 + "{}" + "}" * 59),
)

# Every step and every end, ifs within one another, and names that are words of
# the writing themselves; beneath it the text that it is written as.
EVERY = (
    function("main", "a b c d e f",
             let("n1", "add", of("a"), value(-1)), let("n2", "sub", value(3), of("n1")),
             let("n3", "mul", of("n1"), of("n2")), let("n4", "div", of("n3"), value(2)),
             let("n5", "rem", of("n3"), value(2)), let("n6", "less", of("n4"), of("n5")),
             let("n7", "same", of("b"), value("word")), let("n8", "down", value(10 ** 18 - 1)),
             let("n9", "kind", of("c")), let("r1", "front", of("a"), of("d")), let("r2", "head", of("r1")),
             let("r3", "rest", of("r1")), let("r4", "many", value((1, ("a",), {}))),
             let("r5", "item", of("d"), value(0)), let("r6", "put", of("d"), of("a"), value({"b": 1, "a": ()})),
             let("c1", "field", of("e"), value("abcdefgh")), let("c2", "set", of("e"), value("w"), of("f")),
             call("k1", "none"), call("k2", "else", of("c2"), value(1 - 10 ** 18)),
             when(of("n6"),
                  block(let("x", "kind", of("k1")), when(value(0), block(go("none")), block(fail("fail")))),
                  block(when(of("n7"), block(give(of("k2"))),
                             block(call("y", "if", of("a")), go("else", of("y"), value(()))))))),
    function("none", "", give(value({}))),
    function("else", "fun give", let("go", "add", of("fun"), of("give")), let("fail", "add", of("go"), value(1)),
             call("if", "if", of("fail")), let("end", "down", of("if")), call("call", "call"),
             let("add", "add", of("end"), of("end")), let("let", "kind", of("add")), let("is", "kind", of("let")),
             let("else", "many", value(())),
             when(of("else"), block(let("of", "kind", of("call")), give(of("of"))),
                  block(let("set", "head", value((1,))), go("call")))),
    function("if", "if", give(of("if"))),
    function("call", "", fail("else")),
)

EVERY_TEXT = """fun main a b c d e f
n1 = add a -1
n2 = sub 3 n1
n3 = mul n1 n2
n4 = div n3 2
n5 = rem n3 2
n6 = less n4 n5
n7 = same b 'word
n8 = down 999999999999999999
n9 = kind c
r1 = front a d
r2 = head r1
r3 = rest r1
r4 = many [1,['a],{}]
r5 = item d 0
r6 = put d a {a:[],b:1}
c1 = field e 'abcdefgh
c2 = set e 'w f
k1 = call none
k2 = call else c2 -999999999999999999
if n6
x = kind k1
if 0
go none
else
fail fail
end
else
if n7
give k2
else
y = call if a
go else y []
end
end
fun none
give {}
fun else fun give
go = add fun give
fail = add go 1
if = call if fail
end = down if
call = call call
add = add end end
let = kind add
is = kind let
else = many []
if else
of = kind call
give of
else
set = head [1]
go call
end
fun if if
give if
fun call
fail else"""


def outcome(asked, arguments):
    """What a function tells, or the class and the fields of its refusal."""
    try:
        told = asked(*arguments)
    except ValueError as error:
        return "refused " + type(error).__name__ + plain(vars(error))
    return "told " + plain(told)


class Case(unittest.TestCase):
    def assert_same(self, told, expected, message=None):
        self.assertEqual(plain(told), plain(expected), message)

    def assert_refused(self, expected, fields, function, *arguments):
        """That a refusal of this class comes, with these fields."""
        try:
            told = function(*arguments)
        except expected as error:
            for field, value in fields.items():
                self.assert_same(getattr(error, field), value, arguments)
            return
        self.fail(f"{expected.__name__} was to come of {arguments!r}, told was {told!r}")

    def assert_unchanged(self, function, *arguments):
        """That what is handed in stays as it was, the order of dicts too."""
        before = repr(arguments)
        outcome(function, arguments)
        self.assertEqual(repr(arguments), before)

    def assert_steady(self, function, asked):
        """That each asking is told the same again, behind all the others too,
        and that what was told first is not changed by the later askings."""
        told = [function(*arguments) for arguments in asked]
        kept = copy.deepcopy(told)
        again = [function(*arguments) for arguments in reversed(asked)]
        self.assert_same(again[::-1], kept)
        self.assert_same(told, kept)
        self.assertEqual(repr(told), repr(kept))
