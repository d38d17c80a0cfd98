"""[11] how a run goes, line by line; [12] what it tells within its budget."""

from foreknown.errors import Fault
from foreknown.ops import op_of
from foreknown.runner import run
from foreknown.shapes import function_by
from helping import (BOUND, Case, WORDS, block, by_chance, call, fail, function, give, let, many_functions, of,
                     program_of, value, when)

MOST = 100000
TOP = BOUND - 1

# Of each op values that it takes, and what it tells of them.
TOLD = (
    ("add", (2, 3), 5), ("sub", (2, 3), -1), ("mul", (-2, 3), -6), ("div", (-7, 2), -4), ("rem", (-7, 2), 1),
    ("less", (2, 3), 1), ("less", (3, 2), 0), ("same", ((1, "a"), (1, "a")), 1), ("same", ({"a": 1}, ()), 0),
    ("down", (1,), 0), ("kind", ({},), "record"), ("kind", ("row",), "word"), ("front", (1, (2, 3)), (1, 2, 3)),
    ("head", (((), 1),), ()), ("rest", ((1, 2),), (2,)), ("many", ((1, 2, 3),), 3), ("item", ((5, 6, 7), 1), 6),
    ("put", ((5, 6, 7), 1, "a"), (5, "a", 7)), ("field", ({"a": 1, "b": (2,)}, "b"), (2,)),
    ("set", ({"a": 1}, "b", 2), {"a": 1, "b": 2}), ("set", ({"a": 1}, "a", ()), {"a": ()}),
)

FAULTS = (
    ("add", (TOP, 1), "wide"), ("sub", (-TOP, 1), "wide"), ("mul", (TOP, 2), "wide"), ("div", (1, 0), "nought"),
    ("rem", (1, 0), "nought"), ("less", (1, "a"), "kind"), ("down", (0,), "low"), ("down", (-3,), "low"),
    ("front", (1, 1), "kind"), ("front", (1, (1,) * 59), "large"), ("head", ((),), "empty"), ("rest", ((),), "empty"),
    ("many", ({},), "kind"), ("item", ((1,), 1), "place"), ("item", ((1,), -1), "place"),
    ("put", ((), 0, 1), "place"), ("put", ((1,) * 59, 0, (1, 1)), "large"), ("field", ({"a": 1}, "b"), "field"),
    ("field", ({"a": 1}, 1), "kind"), ("set", ({}, 1, 1), "kind"), ("set", ({}, "a", (1,) * 59), "large"),
)

# Tells the sum of the row and n; calls wait as many deep as the row is long.
SUM = program_of("""
    fun main row n
    so = call sum row
    all = add so n
    give all
    fun sum row
    many = many row
    if many
    head = head row
    rest = rest row
    so = call sum rest
    all = add head so
    give all
    else
    give 0
    end""")

# Counts down by calls that wait, 5 n + 2 steps.
DEEP = program_of("""
    fun deep n
    if n
    less = down n
    so = call deep less
    more = add so 1
    give more
    else
    give 0
    end""")

ENDLESS_CALLS = program_of("fun f\nx = call f\ngive x")
ENDLESS_GOES = program_of("fun f n\nm = add n 1\ngo g m\nfun g n\ngo f n")


class Stop(Exception):
    pass


class Slow:
    """The words of [11] once more, by Python's own calls."""

    def __init__(self, program, budget):
        self.program = program
        self.budget = budget
        self.steps = 0

    def count(self):
        if self.steps == self.budget:
            raise Stop()
        self.steps += 1

    def call(self, name, values):
        while True:
            called = function_by(self.program, name)
            ended, told = self.block(called[2], dict(zip(called[1], values)))
            if ended == "give":
                return told
            name, values = told

    def block(self, ran, bound):
        def known(atom):
            return atom[1] if atom[0] == "is" else bound[atom[1]]
        for word, name, aim, atoms in ran[0]:
            self.count()
            values = tuple(known(atom) for atom in atoms)
            bound[name] = op_of(aim).answer(values) if word == "let" else self.call(aim, values)
        self.count()
        end = ran[1]
        if end[0] == "fail":
            raise Fault(end[1])
        if end[0] == "go":
            return "go", (end[1], tuple(known(atom) for atom in end[2]))
        if end[0] == "give":
            return "give", known(end[1])
        asked = known(end[1])
        if not isinstance(asked, int):
            raise Fault("kind")
        return self.block(end[3] if asked == 0 else end[2], bound)

    def run(self, inputs):
        try:
            return ("told", self.call(self.program[0][0], inputs), self.steps)
        except Fault as fault:
            return ("fault", fault.word, self.steps)
        except Stop:
            return ("out", None, self.budget)


class RunCase(Case):
    def at_each_budget(self, program, inputs, word, told, steps):
        """That this is told in so many steps, at all budgets from them on, and that
        all budgets below them are too few."""
        for budget in sorted({steps, steps + 1, steps + 60, MOST}):
            self.assert_same(run(program, inputs, budget), (word, told, steps), (inputs, budget))
        for budget in range(steps):
            self.assert_same(run(program, inputs, budget), ("out", None, budget), (inputs, budget))

    def tells(self, program, inputs, told, steps):
        self.at_each_budget(program, inputs, "told", told, steps)

    def faults(self, program, inputs, word, steps):
        self.at_each_budget(program, inputs, "fault", word, steps)


class LinesTest(RunCase):
    def with_op(self, op, values):
        """Programs of two lines that tell what the op tells: of params, of values
        that stand in it, and of both."""
        params = " ".join("abc"[:len(values)])
        names = [of(name) for name in params.split()]
        atoms = [value(one) for one in values]
        yield (function("main", params, let("x", op, *names), give(of("x"))),)
        yield (function("main", params, let("x", op, *atoms), give(of("x"))),)
        yield (function("main", params, let("x", op, *(names[:1] + atoms[1:])), give(of("x"))),)

    def test_a_let_of_every_op(self):
        self.assertEqual({op for op, _, _ in TOLD}, set(WORDS))
        for op, values, told in TOLD:
            for program in self.with_op(op, values):
                self.tells(program, values, told, 2)

    def test_a_let_that_faults_counts(self):
        self.assertEqual({op for op, _, _ in FAULTS}, set(WORDS) - {"same", "kind"})
        for op, values, word in FAULTS:
            for program in self.with_op(op, values):
                self.faults(program, values, word, 1)

    def test_lets_stand_on_earlier_ones(self):
        program = program_of("""
            fun main a b
            c = add a b
            d = mul c a
            e = front d []
            f = front c e
            g = sub d c
            h = item f 1
            i = same h d
            j = add g i
            give j""")
        self.tells(program, (3, 4), 21 - 7 + 1, 9)

    def test_a_fault_ends_the_run_where_it_stands(self):
        program = program_of("fun main a\nb = add a 1\nc = div b a\nd = add c 1\nfail stop")
        self.faults(program, (0,), "nought", 2)
        self.faults(program, (1,), "stop", 4)

    def test_give(self):
        for given in (0, -TOP, TOP, "a", (), (1, ("b",)), {}, {"b": 1, "a": {}}):
            self.tells((function("main", "", give(value(given))),), (), given, 1)
            self.tells((function("main", "a", give(of("a"))),), (given,), given, 1)
            self.tells((function("main", "b a", give(of("a"))),), (7, given), given, 1)

    def test_fail_with_any_word(self):
        for word in ("a", "stop", "kind", "wide", "nought", "low", "empty", "place", "field", "large", "abcdefgh",
                     "told", "fault", "out"):
            self.faults((function("main", "", fail(word)),), (), word, 1)
            self.faults((function("main", "a", let("x", "add", of("a"), of("a")), fail(word)),), (1,), word, 2)

    def test_words_that_read_like_names(self):
        self.tells((function("main", "a", give(value("a"))),), (5,), "a", 1)
        self.tells((function("main", "a", let("b", "kind", value("a")), give(of("b"))),), (5,), "word", 2)
        self.tells((function("main", "a", let("b", "same", of("a"), value("a")), give(value("b"))),), (5,), "b", 2)
        self.tells((function("main", "a", call("b", "f", value("a"), of("a")), give(of("b"))),
                    function("f", "c a", let("d", "front", of("c"), value(())), give(of("d")))), (5,), ("a",), 4)
        self.faults((function("main", "a", when(value("a"), block(give(of("a"))), block(give(of("a"))))),), (1,),
                    "kind", 1)

    def test_the_main_function_is_the_first_one(self):
        program = program_of("fun f\ngive 1\nfun main\ngive 2\nfun a\ngive 3")
        self.tells(program, (), 1, 1)


class IfTest(RunCase):
    def test_an_if_on_each_number(self):
        program = program_of("""
            fun main a
            b = add a 0
            if b
            give 'first
            else
            c = kind b
            give 'second
            end""")
        for number in (1, 2, -1, -2, TOP, -TOP, 10 ** 9):
            self.tells(program, (number,), "first", 3)
            self.tells((function("f", "", when(value(number), block(give(value(1))), block(fail("no")))),), (), 1, 2)
        self.tells(program, (0,), "second", 4)
        self.faults((function("f", "", when(value(0), block(give(value(1))), block(fail("no")))),), (), "no", 2)

    def test_an_if_on_what_is_no_number(self):
        program = program_of("fun main a\nb = kind a\nif a\ngive 1\nelse\ngive 2\nend")
        for asked in ("a", "number", (), (0,), (1,), {}, {"a": 0}, {"a": 1}):
            self.faults(program, (asked,), "kind", 2)
            self.faults((function("f", "", when(value(asked), block(give(value(1))), block(fail("no")))),), (),
                        "kind", 1)

    def down_to(self, depth, side):
        """Ifs within one another: the one at level k goes on further in where the
        input is over k, else out with a give of k."""
        inmost = block(let("in", "mul", of("n"), value(10)), give(of("in")))
        for level in range(depth - 1, -1, -1):
            name = f"l{level}"
            beside = block(let(f"b{level}", "add", of("n"), value(100)), give(of(f"b{level}")))
            if side == 0:
                asked = let(name, "less", value(level), of("n"))
                inmost = block(asked, when(of(name), inmost, beside))
            else:
                asked = let(name, "less", of("n"), value(level + 1))
                inmost = block(asked, when(of(name), beside, inmost))
        return (("main", ("n",), inmost),)

    def test_ifs_within_one_another(self):
        for side in (0, 1):
            for depth in range(1, 9):
                program = self.down_to(depth, side)
                for n in range(depth):
                    self.tells(program, (n,), n + 100, 2 * (n + 1) + 2)
                self.tells(program, (depth,), depth * 10, 2 * depth + 2)

    def test_names_of_blocks_around_are_known_within(self):
        program = program_of("""
            fun main a
            b = add a 1
            if a
            c = add b 10
            if b
            d = add c a
            give d
            else
            e = sub c a
            give e
            end
            else
            c2 = mul b 5
            give c2
            end""")
        self.tells(program, (1,), 13, 6)
        self.tells(program, (-1,), 11, 6)
        self.tells(program, (0,), 5, 4)


class CallsTest(RunCase):
    def test_a_call_gives_and_goes_on_behind_it(self):
        self.tells(SUM, ((), 5), 5, 6)
        self.tells(SUM, ((7,), 5), 12, 6 + 7)
        self.tells(SUM, ((1, 2, 3), -6), 0, 6 + 3 * 7)

    def test_a_fault_while_calls_wait(self):
        self.faults(SUM, ((1, "a"), 5), "kind", 1 + 2 * 5 + 3 + 1)
        self.faults(SUM, ((TOP, 1, 2), 5), "wide", 1 + 3 * 5 + 3 + 2 + 2 + 1)
        self.faults(SUM, ("a", 5), "kind", 2)
        program = program_of("""
            fun main
            x = call f
            give x
            fun f
            x = call g
            give 1
            fun g
            x = call h
            give 2
            fun h
            fail deep""")
        self.faults(program, (), "deep", 4)

    def test_a_go_takes_the_place_of_the_function(self):
        program = program_of("""
            fun main n
            x = call loop n 1
            y = add x 1
            give y
            fun loop n so
            if n
            m = down n
            more = mul so n
            go loop m more
            else
            go out so
            end
            fun out so
            give so""")
        self.tells(program, (0,), 2, 1 + 3 + 2)
        self.tells(program, (4,), 25, 1 + 4 * 4 + 3 + 2)

    def test_a_give_in_the_function_gone_to_by_the_main_one_ends_the_run(self):
        self.tells(program_of("fun main a\ngo f a\nfun f b\nc = add b 1\ngive c"), (1,), 2, 3)

    def test_the_same_names_in_two_functions_are_two(self):
        program = program_of("""
            fun main a b
            x = add a 1
            y = call f x b
            z = add x y
            w = mul z a
            give w
            fun f b a
            x = mul a 10
            y = add x b
            z = call g y
            give z
            fun g x
            a = add x 1
            give a""")
        self.tells(program, (2, 5), (3 + (50 + 3 + 1)) * 2, 5 + 4 + 2)

    def test_the_same_names_while_a_function_waits_for_itself(self):
        program = program_of("""
            fun main n
            if n
            m = down n
            x = call main m
            y = front n x
            give y
            else
            give []
            end""")
        self.tells(program, (3,), (3, 2, 1), 3 * 5 + 2)

    def test_params_are_handed_by_their_places(self):
        program = program_of("""
            fun main a b c d e f
            x = call back f e d c b a
            give x
            fun back a b c d e f
            g = front a []
            h = front b g
            i = front c h
            j = front d i
            k = front e j
            l = front f k
            give l""")
        self.tells(program, (1, 2, 3, 4, 5, 6), (1, 2, 3, 4, 5, 6), 9)

    def test_values_handed_on(self):
        program = program_of("""
            fun main
            x = call f 1 'a [] {b:2}
            give x
            fun f a b c d
            e = front d c
            g = front b e
            h = front a g
            go g h {a:[1]}
            fun g a b
            c = front b a
            give c""")
        self.tells(program, (), ({"a": (1,)}, 1, "a", {"b": 2}), 8)

    def test_no_params(self):
        self.tells(program_of("fun main\nx = call f\ny = call f\nz = add x y\ngo g\nfun f\ngive 2\nfun g\ngive 'g"),
                   (), "g", 7)

    def test_calls_in_both_blocks_of_an_if(self):
        program = program_of("""
            fun main a
            if a
            x = call one a
            give x
            else
            y = call two a
            go one y
            end
            fun one a
            b = add a 1
            give b
            fun two a
            give 7""")
        self.tells(program, (3,), 4, 5)
        self.tells(program, (0,), 8, 6)


class BudgetTest(RunCase):
    def test_a_budget_of_nought(self):
        for program, inputs in ((SUM, ((), 1)), (DEEP, (3,)), (ENDLESS_CALLS, ()), (ENDLESS_GOES, (0,))):
            self.assert_same(run(program, inputs, 0), ("out", None, 0))
        self.assert_same(run(program_of("fun f\nfail x"), (), 0), ("out", None, 0))

    def test_without_end(self):
        for budget in (1, 2, 3, 1000, MOST - 1, MOST):
            self.assert_same(run(ENDLESS_CALLS, (), budget), ("out", None, budget))
            self.assert_same(run(ENDLESS_GOES, (0,), budget), ("out", None, budget))
        self.assert_same(run(program_of("fun f\ngo f"), (), MOST), ("out", None, MOST))

    def test_goes_up_to_the_bound_of_numbers(self):
        self.assert_same(run(ENDLESS_GOES, (TOP - 5,), MOST), ("fault", "wide", 16))

    def test_calls_wait_thousands_deep(self):
        for n in (100, 1000, 5000, 19999):
            self.assert_same(run(DEEP, (n,), MOST), ("told", n, 5 * n + 2))
        self.assert_same(run(DEEP, (19999,), 5 * 19999 + 2), ("told", 19999, 5 * 19999 + 2))
        self.assert_same(run(DEEP, (19999,), 5 * 19999 + 1), ("out", None, 5 * 19999 + 1))
        self.assert_same(run(DEEP, (20000,), MOST), ("out", None, MOST))
        self.assert_same(run(DEEP, (-1,), MOST), ("fault", "low", 2))

    def test_a_fault_below_thousands_of_calls(self):
        program = program_of("""
            fun deep n
            m = down n
            so = call deep m
            give so""")
        self.assert_same(run(program, (49999,), MOST), ("fault", "low", 99999))
        self.assert_same(run(program, (49999,), 99999), ("fault", "low", 99999))
        self.assert_same(run(program, (49999,), 99998), ("out", None, 99998))
        self.assert_same(run(program, (50000,), MOST), ("out", None, MOST))

    def test_as_deep_as_the_budget_lets(self):
        program = program_of("""
            fun main n
            if n
            m = down n
            so = call main m
            give so
            else
            give 'ground
            end""")
        self.assert_same(run(program, (24999,), MOST), ("told", "ground", 4 * 24999 + 2))
        self.assert_same(run(program, (24999,), 4 * 24999 + 2), ("told", "ground", 4 * 24999 + 2))
        self.assert_same(run(program, (25000,), MOST), ("out", None, MOST))

    def test_a_program_of_as_many_functions_as_may_be(self):
        self.tells(many_functions(200), ("a",), "a", 200)
        callers = [function(f"f{k}", "a", call("x", f"f{k + 1}", of("a")), give(of("x"))) for k in range(199)]
        self.tells(tuple(callers) + (function("f199", "a", give(of("a"))),), (5,), 5, 399)

    def test_by_chance(self):
        for chance, program in by_chance(300):
            for budget in (1, 7, 200):
                inputs = chance.inputs()
                self.assert_same(run(program, inputs, budget), Slow(program, budget).run(inputs), (program, inputs))


class NothingKeptTest(Case):
    RECORDS = program_of("""
        fun main c r
        d = set c 'a r
        e = call f d r
        g = front c e
        give g
        fun f d r
        e = set d 'b 1
        f = put r 0 e
        h = set d 'a f
        g = front h []
        give g""")

    def test_nothing_is_changed(self):
        self.assert_unchanged(run, self.RECORDS, ({"b": 5, "a": {"c": 1}}, ({"a": 1}, 2)), MOST)
        self.assert_unchanged(run, SUM, ((1, 2, 3), 4), MOST)
        self.assert_unchanged(run, SUM, ((1, 2, "a"), 4), MOST)
        program = (function("f", "", let("x", "set", value({"b": 1}), value("a"), value(())), give(of("x"))),)
        self.assert_unchanged(run, program, (), MOST)

    def test_the_record_handed_in_stays_beside_the_one_told(self):
        record = {"b": 5}
        told = run(self.RECORDS, (record, (1, 2)), MOST)
        self.assert_same(told, ("told", ({"b": 5}, {"b": 5, "a": ({"b": 1, "a": (1, 2)}, 2)}), 9))
        self.assert_same(record, {"b": 5})

    def test_asked_again(self):
        asked = [(self.RECORDS, ({"b": 5}, (1, 2)), MOST), (SUM, ((1, 2), 3), MOST), (SUM, ((1, 2), 3), 5),
                 (DEEP, (40,), MOST), (DEEP, (40,), 100), (ENDLESS_GOES, (1,), 300), (SUM, ((1, "a"), 3), MOST)]
        self.assert_steady(run, asked)
