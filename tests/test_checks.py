"""[8] the trouble in a program, and which one is the first."""

from foreknown.checks import check
from foreknown.errors import NoFunction, Twice, Unbound, WrongCount
from helping import (Case, EVERY, block, call, fail, function, give, go, ifs_within, let, long_function,
                     many_functions, of, outcome, value, when)

ONE = function("one", "a", give(of("a")))
TWO = function("two", "a b", give(of("a")))
NONE = function("none", "", give(value(1)))
STOP = block(fail("stop"))


class CheckCase(Case):
    def sound(self, *program):
        self.assertIsNone(check(program))

    def trouble(self, refusal, place, name, *program):
        self.assert_refused(refusal, {"function": place, "name": name}, check, program)

    def in_each_place(self, *lines):
        """Bodies of a function with the params a and b in which these lines stand
        in the first block, and in either block of an if, whose atom is a value."""
        made = block(*lines)
        yield made
        yield block(when(value(1), made, STOP))
        yield block(when(value(1), STOP, made))
        yield block(let("ahead", "kind", value(1)), when(of("ahead"), STOP, block(when(of("a"), made, STOP))))


class SoundTest(CheckCase):
    def test_sound_programs(self):
        self.sound(ONE)
        self.sound(NONE)
        self.sound(*EVERY)
        self.sound(*many_functions(200))
        self.sound(long_function(60))
        for side in (0, 1):
            self.sound(("f", (), ifs_within(8, side)))

    def test_a_name_may_stand_in_two_functions(self):
        self.sound(function("f", "a", let("x", "kind", of("a")), give(of("x"))),
                   function("g", "a", let("x", "kind", of("a")), give(of("x"))))

    def test_functions_params_and_steps_are_named_apart(self):
        self.sound(function("f", "f", let("g", "kind", of("f")), go("g", of("g"))),
                   function("g", "g", let("f", "kind", of("g")), go("f", of("f"))))

    def test_names_of_blocks_around_are_bound(self):
        self.sound(function("f", "a", let("x", "kind", of("a")), when(
            of("x"),
            block(let("y", "same", of("x"), of("a")), when(
                of("y"), block(let("z", "front", of("y"), value(())), give(of("z"))), block(give(of("x"))))),
            block(let("w", "same", of("x"), of("a")), give(of("w"))))))

    def test_a_function_may_aim_at_itself_and_at_later_and_earlier_ones(self):
        self.sound(function("f", "a", call("x", "f", of("a")), call("y", "g", of("x")), go("f", of("y"))),
                   function("g", "a", call("x", "f", of("a")), go("g", of("x"))))

    def test_what_lies_beyond_the_bounds_is_not_refused(self):
        self.sound(*many_functions(201))
        self.sound(long_function(61))
        self.sound(("f", (), ifs_within(9, 0)))
        self.sound(function("f", "a b c d e g h", give(of("h"))))


class TwiceTest(CheckCase):
    def test_functions(self):
        self.trouble(Twice, "one", "one", ONE, ONE)
        self.trouble(Twice, "one", "one", ONE, TWO, function("one", "", fail("a")))
        self.trouble(Twice, "two", "two", ONE, TWO, NONE, TWO, ONE)

    def test_params(self):
        self.trouble(Twice, "f", "a", function("f", "a a", give(of("a"))))
        self.trouble(Twice, "f", "b", function("f", "a b c b", give(of("a"))))
        self.trouble(Twice, "f", "b", function("f", "a b b a", give(of("a"))))
        self.trouble(Twice, "f", "a", ONE, function("f", "b c d e g a a", give(of("a"))))

    def test_a_step_against_a_param(self):
        for step in (let("a", "kind", value(1)), let("a", "kind", of("a")), call("a", "none"), call("a", "one",
                                                                                                  of("a"))):
            for made in self.in_each_place(step, give(of("a"))):
                self.trouble(Twice, "f", "a", ("f", ("a", "b"), made), ONE, NONE)
        self.trouble(Twice, "f", "b", function("f", "a b", let("b", "kind", value(1)), give(of("a"))))

    def test_a_step_against_an_earlier_step(self):
        first = let("x", "kind", value(1))
        for step in (let("x", "kind", value(1)), let("x", "kind", of("x")), call("x", "none")):
            for made in self.in_each_place(first, step, give(value(1))):
                self.trouble(Twice, "f", "x", ("f", ("a",), made), NONE)
            within = block(step, give(value(1)))
            self.trouble(Twice, "f", "x", function("f", "", first, when(value(1), within, STOP)), NONE)
            self.trouble(Twice, "f", "x", function("f", "", first, when(value(1), STOP, within)), NONE)

    def test_a_step_against_one_in_the_other_block(self):
        left = block(let("x", "kind", value(1)), give(of("x")))
        right = block(call("x", "none"), give(of("x")))
        self.trouble(Twice, "f", "x", function("f", "", when(value(1), left, right)), NONE)
        self.trouble(Twice, "f", "x", function("f", "", when(value(1), right, left)), NONE)
        deep_left = block(when(value(1), STOP, block(when(value(1), left, STOP))))
        deep_right = block(when(value(1), block(when(value(1), STOP, right)), STOP))
        self.trouble(Twice, "f", "x", function("f", "", when(value(1), deep_left, deep_right)), NONE)


class UnboundTest(CheckCase):
    def test_a_name_that_there_is_not(self):
        lines = (let("s", "kind", of("x")), let("s", "add", value(1), of("x")), call("s", "one", of("x")),
                 call("s", "two", value(1), of("x")))
        for step in lines:
            for made in self.in_each_place(step, give(value(1))):
                self.trouble(Unbound, "f", "x", ("f", ("a",), made), ONE, TWO)
        for end in (give(of("x")), go("one", of("x")), go("two", of("a"), of("x")), when(of("x"), STOP, STOP)):
            for made in self.in_each_place(end):
                self.trouble(Unbound, "f", "x", ("f", ("a",), made), ONE, TWO)

    def test_a_name_of_a_later_line(self):
        later = let("x", "kind", value(1))
        for step in (let("s", "kind", of("x")), call("s", "one", of("x"))):
            for made in self.in_each_place(step, later, give(of("x"))):
                self.trouble(Unbound, "f", "x", ("f", ("a",), made), ONE)
        within = block(later, give(of("x")))
        self.trouble(Unbound, "f", "x", function("f", "", when(of("x"), within, STOP)))
        self.trouble(Unbound, "f", "x", function("f", "", let("s", "kind", of("x")), when(value(1), STOP, within)))

    def test_a_name_of_the_other_block(self):
        own = block(let("x", "kind", value(1)), give(of("x")))
        other = block(give(of("x")))
        self.trouble(Unbound, "f", "x", function("f", "", when(value(1), own, other)))
        self.trouble(Unbound, "f", "x", function("f", "", when(value(1), other, own)))
        self.trouble(Unbound, "f", "x", function("f", "", when(value(1), own, block(when(value(1), STOP, other)))))
        deep = block(when(value(1), own, STOP))
        self.trouble(Unbound, "f", "x", function("f", "", when(value(1), deep, other)))
        self.trouble(Unbound, "f", "x", function("f", "", when(value(1), STOP, block(when(value(1), own, other)))))

    def test_a_name_of_another_function(self):
        one = function("f", "a", let("x", "kind", of("a")), give(of("x")))
        for name in ("a", "x", "f", "g"):
            other = function("g", "b", give(of(name)))
            self.trouble(Unbound, "g", name, one, other)
            self.trouble(Unbound, "g", name, other, one)

    def test_the_step_s_own_name(self):
        for step in (let("x", "kind", of("x")), call("x", "one", of("x"))):
            for made in self.in_each_place(step, give(of("x"))):
                self.trouble(Unbound, "f", "x", ("f", ("a",), made), ONE)


class AimsTest(CheckCase):
    def test_no_function(self):
        for line in (call("s", "zero"), call("s", "zero", value(1)), call("s", "a"), call("s", "s")):
            for made in self.in_each_place(line, give(of("a"))):
                self.trouble(NoFunction, "f", line[2], ("f", ("a",), made))
        for line in (go("zero"), go("zero", value(1)), go("a", of("a")), go("on")):
            for made in self.in_each_place(line):
                self.trouble(NoFunction, "f", line[1], ("f", ("a",), made), ONE)

    def test_wrong_count(self):
        for name, right in (("none", 0), ("one", 1), ("two", 2), ("f", 1), ("six", 6)):
            six = function("six", "a b c d e f", give(of("f")))
            for count in (0, 1, 2, 3, 5, 6, 7, 8):
                atoms = (value(1),) * count
                for made in list(self.in_each_place(call("s", name, *atoms), give(of("s")))) + list(
                        self.in_each_place(go(name, *atoms))):
                    program = (("f", ("a",), made), NONE, ONE, TWO, six)
                    if count == right:
                        self.sound(*program)
                    else:
                        self.trouble(WrongCount, "f", name, *program)


class OrderTest(CheckCase):
    def test_function_names_ahead_of_all_else(self):
        bad = function("f", "a a", call("a", "zero", of("x")), go("one"))
        self.trouble(Twice, "one", "one", bad, ONE, ONE)
        self.trouble(Twice, "f", "f", bad, ONE, bad)
        self.trouble(Twice, "one", "one", bad, ONE, TWO, ONE, TWO)
        self.trouble(Twice, "two", "two", bad, ONE, TWO, TWO, ONE)

    def test_a_function_ahead_of_the_next_one(self):
        params = function("p", "a a", give(of("a")))
        for refusal, name, lines in (
                (NoFunction, "zero", (go("zero"),)), (WrongCount, "none", (go("none", value(1)),)),
                (Unbound, "x", (give(of("x")),)), (Twice, "b", (let("b", "kind", value(1)), fail("a")))):
            first = function("f", "b", *lines)
            self.trouble(refusal, "f", name, NONE, first, params)
            self.trouble(Twice, "p", "a", NONE, params, first)
            second = function("g", "b", *lines)
            self.trouble(refusal, "f", name, NONE, first, second)

    def test_params_ahead_of_lines(self):
        for lines in ((go("zero"),), (go("none", value(1)),), (give(of("x")),),
                      (let("b", "kind", value(1)), fail("a"))):
            self.trouble(Twice, "f", "c", function("f", "b c c", *lines), NONE)

    def test_the_first_line_ahead_of_the_next_one(self):
        steps = ((NoFunction, "zero", call("s", "zero")), (WrongCount, "none", call("t", "none", value(1))),
                 (Unbound, "x", let("u", "kind", of("x"))), (Twice, "a", let("a", "kind", value(1))))
        for refusal, name, step in steps:
            for other in steps:
                if other[1] != name:
                    for made in self.in_each_place(step, other[2], fail("a")):
                        self.trouble(refusal, "f", name, ("f", ("a",), made), NONE)

    def test_an_if_ahead_of_its_blocks_and_the_first_ahead_of_the_second(self):
        first = block(give(of("x")))
        second = block(go("zero"))
        self.trouble(Unbound, "f", "y", function("f", "", when(of("y"), first, second)))
        self.trouble(Unbound, "f", "x", function("f", "", when(value(1), first, second)))
        self.trouble(NoFunction, "f", "zero", function("f", "", when(value(1), second, first)))
        deep = block(when(value(1), STOP, block(when(value(1), STOP, second))))
        self.trouble(NoFunction, "f", "zero", function("f", "", when(value(1), deep, first)))
        self.trouble(Unbound, "f", "z", function("f", "", let("s", "kind", of("z")), when(of("y"), first, second)))

    def test_in_one_line_the_function_then_the_number_then_atoms_then_the_name(self):
        for name, place in (("a", "param"), ("s", "step")):
            ahead = let("s", "kind", value(1))
            for refusal, told, line in (
                    (NoFunction, "zero", call(name, "zero", of("x"), of("y"))),
                    (WrongCount, "one", call(name, "one", of("x"), of("y"))),
                    (WrongCount, "one", call(name, "one")),
                    (Unbound, "x", call(name, "two", of("x"), of("y"))),
                    (Unbound, "y", call(name, "two", of("a"), of("y"))),
                    (Unbound, "x", let(name, "add", of("x"), of("y"))),
                    (Unbound, "y", let(name, "put", value(()), of("y"), of("x"))),
                    (Twice, name, call(name, "two", of("a"), of("s"))),
                    (Twice, name, let(name, "add", of("a"), of("s")))):
                self.trouble(refusal, "f", told, function("f", "a", ahead, line, fail("a")), ONE, TWO)

    def test_in_a_go_the_function_then_the_number_then_atoms(self):
        for refusal, told, line in (
                (NoFunction, "zero", go("zero", of("x"))), (WrongCount, "one", go("one", of("x"), of("y"))),
                (WrongCount, "two", go("two", of("x"))), (Unbound, "x", go("two", of("x"), of("y"))),
                (Unbound, "y", go("two", of("a"), of("y")))):
            self.trouble(refusal, "f", told, function("f", "a", line), ONE, TWO)


class UnchangedTest(Case):
    PROGRAMS = (
        EVERY, many_functions(20), (ONE, ONE), (function("f", "a a", give(of("a"))),),
        (function("f", "a", give(of("x"))),), (function("f", "a", go("g")),), (function("f", "a", go("f")),),
        (function("f", "a", let("x", "kind", value({"b": 1, "a": 2})), give(of("x"))),),
        (function("f", "a", let("x", "kind", of("a")), let("x", "kind", of("a")), give(of("x"))),),
    )

    def test_what_is_handed_in_is_not_changed(self):
        for program in self.PROGRAMS:
            self.assert_unchanged(check, program)

    def test_asked_again_the_same_is_told(self):
        self.assert_steady(lambda program: outcome(check, (program,)), [(program,) for program in self.PROGRAMS])
