"""[25] the order of the functions at last, and the names."""

from foreknown.checks import check
from foreknown.renaming import met_names, renamed, renamed_block
from foreknown.runner import run
from foreknown.shapes import functions_by_name
from helping import (Case, EVERY, MACHINE, MIXED, by_chance, block, call, function, give, go, ifs_within,
                     inputs_of_all_kinds, is_put_in_order, let, long_function, many_functions, met_in, of, program_of,
                     value, when)


def rename(program):
    return renamed(functions_by_name(program), program[0][0])


class RenamingCase(Case):
    def renames(self, source, text):
        told = rename(program_of(source))
        self.assert_same(told, program_of(text), source)
        self.puts_in_order(program_of(source))

    def puts_in_order(self, program):
        told = rename(program)
        self.assertIsNone(check(told))
        self.assertTrue(is_put_in_order(told), told)
        self.assertEqual(len(told), len(met_in(program)))
        self.assert_same(rename(told), told)
        for inputs in inputs_of_all_kinds(program):
            self.assert_same(run(told, inputs, 200), run(program, inputs, 200), (program, inputs))
        return told


class OrderTest(RenamingCase):
    def test_function_by_function_and_line_by_line(self):
        """Those that the main one meets come ahead of those that the next one meets."""
        self.renames("""
            fun d
            x = call b
            go c
            fun a
            give 1
            fun b
            x = call e
            go a
            fun c
            go e
            fun e
            give 5""", """
            fun q0
            v0 = call q1
            go q2
            fun q1
            v0 = call q3
            go q4
            fun q2
            go q3
            fun q3
            give 5
            fun q4
            give 1""")

    def test_both_blocks_of_an_if_in_the_lines_order(self):
        self.renames("""
            fun main a
            x = call d a
            if x
            y = call c a
            if y
            go b a
            else
            go e a
            end
            else
            z = call a a
            go f a
            end
            fun a a
            give a
            fun b a
            give a
            fun c a
            give a
            fun d a
            give a
            fun e a
            give a
            fun f a
            give a""", """
            fun q0 v0
            v1 = call q1 v0
            if v1
            v2 = call q2 v0
            if v2
            go q3 v0
            else
            go q4 v0
            end
            else
            v3 = call q5 v0
            go q6 v0
            end
            fun q1 v0
            give v0
            fun q2 v0
            give v0
            fun q3 v0
            give v0
            fun q4 v0
            give v0
            fun q5 v0
            give v0
            fun q6 v0
            give v0""")

    def test_the_main_one_stays_first_whoever_aims_at_it(self):
        self.renames("""
            fun z n
            go a n
            fun a n
            x = call z n
            go b x
            fun b n
            y = call b n
            go z y""", """
            fun q0 v0
            go q1 v0
            fun q1 v0
            v1 = call q0 v0
            go q2 v1
            fun q2 v0
            v1 = call q2 v0
            go q0 v1""")

    def test_functions_that_are_not_met_are_not_there(self):
        program = program_of("fun a\ngive 1\nfun b\ngo c\nfun c\ngo a")
        self.assertEqual(met_names(functions_by_name(program), "a"), ["a"])
        self.assertEqual(met_names(functions_by_name(program), "b"), ["b", "c", "a"])
        self.assert_same(rename(program), program_of("fun q0\ngive 1"))


class NamesTest(RenamingCase):
    def test_params_and_then_steps_in_the_lines_order(self):
        self.renames("""
            fun main c a b
            z = add a b
            if z
            y = add z c
            if y
            x = add y a
            give x
            else
            w = add y b
            give w
            end
            else
            u = add z z
            give u
            end""", """
            fun q0 v0 v1 v2
            v3 = add v1 v2
            if v3
            v4 = add v3 v0
            if v4
            v5 = add v4 v1
            give v5
            else
            v6 = add v4 v2
            give v6
            end
            else
            v7 = add v3 v3
            give v7
            end""")

    def test_names_that_are_these_already(self):
        text = """
            fun q0 v0 v1
            v2 = call q1 v1
            v3 = add v0 v2
            go q2 v3 v2
            fun q1 v0
            give v0
            fun q2 v0 v1
            v2 = sub v1 v0
            go q1 v2"""
        self.renames(text, text)

    def test_these_names_in_another_order(self):
        self.renames("""
            fun q2 v1 v0
            v3 = call q0 v1
            v2 = sub v3 v0
            q0 = mul v2 v1
            go q1 v3 q0
            fun q1 v2 v1
            v0 = sub v2 v1
            go q0 v0
            fun q0 v1
            give v1""", """
            fun q0 v0 v1
            v2 = call q1 v0
            v3 = sub v2 v1
            v4 = mul v3 v0
            go q2 v2 v4
            fun q1 v0
            give v0
            fun q2 v0 v1
            v2 = sub v0 v1
            go q1 v2""")

    def test_names_alike_in_several_functions_and_like_functions_and_ops(self):
        self.renames("""
            fun add add b
            kind = add add b
            fail = call kind kind
            go kind fail
            fun kind add
            kind = kind add
            b = same kind 'add
            if b
            fail add
            else
            go add add b
            end""", """
            fun q0 v0 v1
            v2 = add v0 v1
            v3 = call q1 v2
            go q1 v3
            fun q1 v0
            v1 = kind v0
            v2 = same v1 'add
            if v2
            fail add
            else
            go q0 v0 v2
            end""")

    def test_values_stay_as_they_are(self):
        self.renames("fun a a\nb = set {a:'a,b:'b} 'b a\ngive b", "fun q0 v0\nv1 = set {a:'a,b:'b} 'b v0\ngive v1")
        self.renames("fun a\ngive 'a", "fun q0\ngive 'a")

    def test_none_and_six_params(self):
        self.renames("fun a\ngo b 1 2 3 4 5 6\nfun b a b c d e f\ngo b f e d c b a",
                     "fun q0\ngo q1 1 2 3 4 5 6\nfun q1 v0 v1 v2 v3 v4 v5\ngo q1 v5 v4 v3 v2 v1 v0")

    def test_steads_of_a_block(self):
        """Params may become values, all at once; what isn't told of stays."""
        told = renamed_block(block(let("x", "add", of("a"), of("b")), call("y", "f", of("x"), of("c")),
                                   when(of("a"), block(give(of("b"))), block(go("g", of("y"), value(1))))),
                             {"a": of("b"), "b": value(5), "x": of("a")}, {"g": "h"})
        self.assert_same(told, block(let("a", "add", of("b"), value(5)), call("y", "f", of("a"), of("c")),
                                     when(of("b"), block(give(value(5))), block(go("h", of("y"), value(1))))))


class BoundsTest(RenamingCase):
    def test_two_hundred_functions(self):
        chain = many_functions(200)
        told = self.puts_in_order(chain)
        self.assert_same(told, tuple(
            [function(f"q{k}", "v0", go(f"q{k + 1}", of("v0"))) for k in range(199)]
            + [function("q199", "v0", give(of("v0")))]))
        self.assert_same(rename(chain[:1] + chain[:0:-1]), told)
        # A main function that aims at sixty, each of which aims at others.
        calls = [call(f"s{k}", f"f{200 - k}", of("a")) for k in range(1, 60)]
        many = (function("main", "a", *calls, give(of("a"))),) + tuple(
            function(f"f{k}", "a", go(f"f{(k + 66) % 199 + 1}", of("a"))) for k in range(1, 200))
        self.assertEqual(len(self.puts_in_order(many)), 200)

    def test_sixty_lines(self):
        told = self.puts_in_order((long_function(60),))
        self.assert_same(told, (function("q0", "v0", *[let(f"v{k + 1}", "add", of("v0"), value(k)) for k in range(59)],
                                         give(of("v0"))),))

    def test_eight_ifs_within_one_another(self):
        for side in (0, 1):
            self.puts_in_order((("main", ("x",), ifs_within(8, side)),))

    def test_programs_at_hand_and_by_chance(self):
        for program in (EVERY, MACHINE, MIXED):
            self.puts_in_order(program)
        for _, program in by_chance(150, 100):
            self.puts_in_order(program)


class UnchangedTest(Case):
    def test_what_is_handed_in_stays(self):
        for program in (EVERY, MACHINE, MIXED):
            functions = functions_by_name(program)
            self.assert_unchanged(renamed, functions, program[0][0])
            self.assert_unchanged(met_names, functions, program[0][0])
        self.assert_steady(rename, [(program,) for _, program in by_chance(20, 400)])
