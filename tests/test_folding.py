"""[25] what is done with values that stand in a program, and functions that can't be come to."""

from foreknown.folding import answer_of, fold_all, folded, kept
from foreknown.ops import op_of
from foreknown.shapes import functions_by_name
from helping import (BOUND, Case, EVERY, FAULTY, GOOD, MIXED, WORDS, by_chance, call, can_be_done, function, give, go,
                     ifs_within, let, many_functions, of, program_of, value)


def fold(program):
    """All folding and dropping, functions as they are first met."""
    functions = functions_by_name(program)
    fold_all(functions, list(functions))
    return tuple(kept(functions, program[0][0]).values())


def without_joins(found):
    return [thing for thing in found if thing[0] != "join"]


class FoldingCase(Case):
    def folds(self, source, text):
        program = program_of(source)
        self.assert_same(fold(program), program_of(text), source)
        self.keeps_what_is_told(program)

    def keeps_what_is_told(self, program):
        told = fold(program)
        self.assert_all_as(told, program)
        self.assertEqual(without_joins(can_be_done(told)), [], program)
        self.assert_same(fold(told), told)

    def stays(self, source):
        self.folds(source, source)


class LetsTest(FoldingCase):
    def test_each_op_that_tells_a_value(self):
        self.assertEqual(set(GOOD), set(WORDS))
        for word, values in GOOD.items():
            told = op_of(word).answer(values)
            atoms = [value(one) for one in values]
            program = (function("main", "a", let("x", word, *atoms), let("y", "front", of("x"), of("a")), give(of("y"))),)
            self.assert_same(fold(program), (function("main", "a", let("y", "front", value(told), of("a")),
                                                      give(of("y"))),))
            self.keeps_what_is_told(program)
            program = (function("main", "a", let("x", word, *atoms), give(of("x"))),)
            self.assert_same(fold(program), (function("main", "a", give(value(told))),))

    def test_a_name_among_the_atoms_and_the_let_stays(self):
        for word, values in GOOD.items():
            for k in range(len(values)):
                atoms = [of("a") if j == k else value(one) for j, one in enumerate(values)]
                program = (function("main", "a", let("x", word, *atoms), give(of("x"))),)
                self.assert_same(fold(program), program)

    def test_each_fault_ends_the_block(self):
        self.assertEqual({word for word, _, _ in FAULTY}, set(WORDS) - {"same", "kind"})
        self.assertEqual({fault for _, _, fault in FAULTY},
                         {"wide", "nought", "low", "empty", "place", "field", "kind", "large"})
        for word, values, fault in FAULTY:
            faulty = let("x", word, *[value(one) for one in values])
            program = (function("main", "a", let("w", "add", of("a"), value(1)), faulty,
                                let("y", "add", of("x"), value(1)), call("z", "f"), give(of("z"))),
                       function("f", "", give(value(1))))
            self.assert_same(fold(program), (function("main", "a", let("w", "add", of("a"), value(1)),
                                                      ("fail", fault)),))
            self.keeps_what_is_told(program)

    def test_blocks_behind_a_fault_are_gone(self):
        self.folds("""
            fun main a
            x = down 0
            if a
            go f a
            else
            y = call g a
            give x
            end
            fun f a
            give a
            fun g a
            give a""", """
            fun main a
            fail low""")

    def test_a_fault_in_one_block_ends_that_block_alone(self):
        self.folds("""
            fun main a
            x = add 1 2
            if a
            y = head []
            go f x
            else
            z = add x a
            go f z
            end
            fun f a
            b = add a 1
            give b""", """
            fun main a
            if a
            fail empty
            else
            z = add 3 a
            go f z
            end
            fun f a
            b = add a 1
            give b""")

    def test_what_is_told_stands_in_later_atoms(self):
        self.folds("""
            fun main a
            x = add 1 2
            y = mul x x
            z = front y [1]
            w = set {} 'b z
            v = call f x a w
            u = sub y 9
            if u
            give v
            else
            t = add x v
            go f t y z
            end
            fun f a b c
            d = add a b
            if d
            give c
            else
            give d
            end""", """
            fun main a
            v = call f 3 a {b:[9,1]}
            t = add 3 v
            go f t 9 [9,1]
            fun f a b c
            d = add a b
            if d
            give c
            else
            give d
            end""")

    def test_what_is_told_in_one_block_does_nothing_in_another(self):
        self.folds("""
            fun main a b
            if a
            x = add 1 1
            y = add x b
            give y
            else
            z = add b b
            give z
            end""", """
            fun main a b
            if a
            y = add 2 b
            give y
            else
            z = add b b
            give z
            end""")

    def test_names_alike_in_several_functions(self):
        self.folds("""
            fun main a
            x = add 1 1
            y = call f a
            z = add x y
            give z
            fun f a
            x = add a 1
            give x""", """
            fun main a
            y = call f a
            z = add 2 y
            give z
            fun f a
            x = add a 1
            give x""")


class IfsTest(FoldingCase):
    SOURCE = """
        fun main a
        if {}
        x = add a 1
        y = call f x
        give y
        else
        z = sub a 1
        w = call g z
        go g w
        end
        fun f a
        b = add a a
        give b
        fun g a
        b = sub a a
        give b"""
    FIRST = """
        fun main a
        x = add a 1
        y = call f x
        give y
        fun f a
        b = add a a
        give b"""
    SECOND = """
        fun main a
        z = sub a 1
        w = call g z
        go g w
        fun g a
        b = sub a a
        give b"""

    def test_numbers(self):
        self.folds(self.SOURCE.replace("{}", "0"), self.SECOND)
        for number in (1, 2, -1, BOUND - 1, 1 - BOUND):
            self.folds(self.SOURCE.replace("{}", str(number)), self.FIRST)

    def test_what_is_no_number(self):
        for written in ("'a", "'number", "[]", "[0]", "[1,2]", "{}", "{a:0}"):
            self.folds(self.SOURCE.replace("{}", written), "fun main a\nfail kind")

    def test_steps_ahead_of_it_stay(self):
        self.folds("""
            fun main a
            x = add a 1
            if 0
            give 1
            else
            y = add x 1
            if 'no
            give y
            else
            give x
            end
            end""", """
            fun main a
            x = add a 1
            y = add x 1
            fail kind""")

    def test_on_what_was_told(self):
        self.folds("""
            fun main a
            x = less 1 2
            if x
            y = same [] {}
            if y
            give a
            else
            if a
            z = kind 5
            w = same z 'number
            if w
            give 'yes
            else
            give 'no
            end
            else
            give a
            end
            end
            else
            give a
            end""", """
            fun main a
            if a
            give 'yes
            else
            give a
            end""")

    def test_eight_ifs_within_one_another(self):
        for side in (0, 1):
            program = (("main", (), ifs_within(8, side)),)
            self.assert_same(fold(program), (function("main", "", give(value(8)) if side else ("fail", "stop")),))
            self.keeps_what_is_told(program)

    def test_on_a_name(self):
        self.stays("fun main a\nif a\ngive 1\nelse\ngive 1\nend")


class IdleTest(FoldingCase):
    def test_a_name_that_stands_nowhere(self):
        self.folds("fun main a b\nx = same a b\ny = kind a\ngive b", "fun main a b\ngive b")
        self.folds("fun main a\nx = same a a\nfail stop", "fun main a\nfail stop")
        self.folds("fun main a\nif a\nx = kind a\ngive a\nelse\ny = same a 1\ngo main a\nend",
                   "fun main a\nif a\ngive a\nelse\ngo main a\nend")

    def test_a_name_that_stands_in_an_atom(self):
        self.stays("fun main a\nx = kind a\ngive x")
        self.stays("fun main a\nx = same a 1\nif x\ngive 1\nelse\ngive 2\nend")
        self.stays("fun main a\nx = kind a\ny = front x a\ngive 1")
        self.stays("fun main a b\nx = same a b\ngo main x b")
        self.stays("fun main a b\nx = same a b\ny = call main b x\ngive 1")

    def test_if_only_in_another_block(self):
        self.stays("""
            fun main a
            x = same a 1
            y = kind a
            if a
            give a
            else
            if a
            give y
            else
            z = add a x
            give z
            end
            end""")

    def test_what_only_such_a_let_reads(self):
        self.folds("""
            fun main a
            w = kind a
            x = same w 'row
            y = same x a
            z = kind y
            v = add a 1
            give a""", """
            fun main a
            v = add a 1
            give a""")

    def test_what_only_a_decided_or_done_line_read(self):
        self.folds("""
            fun main a
            x = kind a
            y = same a 1
            if 0
            go main x
            else
            z = call f y
            give z
            end
            fun f a
            give 7""", """
            fun main a
            give 7""")

    def test_the_same_name_in_another_function_is_another_one(self):
        self.folds("""
            fun main a
            x = kind a
            go f a
            fun f a
            x = kind a
            give x""", """
            fun main a
            go f a
            fun f a
            x = kind a
            give x""")

    def test_other_ops_may_fault(self):
        for word in sorted(set(WORDS) - {"same", "kind"}):
            atoms = [of("a")] * len(GOOD[word])
            program = (function("main", "a", let("x", word, *atoms), give(of("a"))),)
            self.assert_same(fold(program), program)
            self.keeps_what_is_told(program)

    def test_a_call_may_fault_or_never_end(self):
        self.stays("fun main a\nx = call f a\ngive a\nfun f a\nb = down a\ngive b")
        self.stays("fun main a\nx = call main a\ngive a")


class AnswersTest(FoldingCase):
    def test_what_gives_a_value_at_once(self):
        for written, told in (("give 5", value(5)), ("give {a:[]}", value({"a": ()})), ("give a", None),
                              ("x = add a 1\ngive 5", None), ("fail stop", None), ("go main 5", None),
                              ("if a\ngive 5\nelse\ngive 5\nend", None)):
            self.assert_same(answer_of(program_of("fun main a\n" + written)[0]), told)

    def test_calls_and_goes(self):
        self.folds("""
            fun main a
            x = call f a a
            y = add x a
            if y
            go f a x
            else
            z = call g
            w = add z x
            go main w
            end
            fun f a b
            give 5
            fun g
            give -5""", """
            fun main a
            y = add 5 a
            if y
            give 5
            else
            go main 0
            end""")

    def test_values_of_all_kinds(self):
        for written in ("0", "-7", "'word", "[]", "[1,['a]]", "{}", "{a:{},b:2}"):
            self.folds(f"fun main a\nx = call f\ny = front x a\ngive y\nfun f\ngive {written}",
                       f"fun main a\ny = front {written} a\ngive y")
            self.folds(f"fun main a\ngo f\nfun f\ngive {written}", f"fun main a\ngive {written}")

    def test_functions_that_come_to_give_a_value(self):
        self.folds("""
            fun main a
            x = call f a
            y = add x a
            give y
            fun f a
            z = call g a
            w = add z 1
            go h w
            fun g a
            x = same a a
            if 1
            give 2
            else
            give a
            end
            fun h a
            go g a""", """
            fun main a
            y = add 2 a
            give y""")

    def test_what_gives_a_name_has_a_step_fails_or_goes_on_stays(self):
        for body in ("give a", "b = add a 1\ngive 5", "fail stop", "go f a", "go main a", "if a\ngive 1\nelse\ngive 1\nend",
                     "b = call f a\ngive 5"):
            self.stays(f"fun main a\nx = call f a\ngive x\nfun f a\n{body}")
            self.stays(f"fun main a\ngo f a\nfun f a\n{body}")
            self.stays(f"fun main a\nif a\ngo f a\nelse\ngo f a\nend\nfun f a\n{body}")

    def test_a_fault_that_a_call_s_value_makes(self):
        self.folds("""
            fun main a
            x = call f
            y = down x
            z = call g
            give z
            fun f
            give 0
            fun g
            go g""", """
            fun main a
            fail low""")

    def test_a_main_function_that_gives_a_value(self):
        self.folds("fun main\nx = add 1 2\ngive x\nfun f\nx = call main\ngive x", "fun main\ngive 3")
        self.folds("fun main a\nif 0\ngo f\nelse\ngive 3\nend\nfun f\nx = call main 1\ngive x", "fun main a\ngive 3")

    def test_a_long_chain_of_them(self):
        """The last one gives a value, each other one calls the next; in both orders."""
        callers = tuple(function(f"f{k}", "a", call("x", f"f{k + 1}", of("a")), let("y", "add", of("x"), value(1)),
                                 give(of("y"))) for k in range(199))
        program = callers + (function("f199", "a", give(value(0))),)
        for turned in (program, program[:1] + program[:0:-1]):
            self.assert_same(fold(turned), (function("f0", "a", give(value(199))),))

    def test_only_named_functions_and_those_that_call_them(self):
        program = program_of("""
            fun main a
            x = call f
            go g x
            fun f
            y = add 1 1
            give y
            fun g a
            z = add 1 1
            give z""")
        functions = functions_by_name(program)
        fold_all(functions, ["f"])
        self.assert_same(tuple(functions.values()), program_of("""
            fun main a
            go g 2
            fun f
            give 2
            fun g a
            z = add 1 1
            give z"""))
        # Those that call it are folded as well where it gave a value all along.
        functions = functions_by_name(program[:1] + program_of("fun f\ngive 2") + program[2:])
        fold_all(functions, ["f"])
        self.assert_same(functions["main"], program_of("fun main a\ngo g 2\nfun g a\ngive a")[0])
        self.assert_same(functions["g"], program[2])
        self.assert_same(folded(program[0], {}), program[0])
        self.assert_same(folded(program[0], {"g": value(7)}), program_of("""
            fun main a
            x = call f
            give 7
            fun f
            give 1""")[0])


class DropTest(FoldingCase):
    def test_functions_that_none_can_come_to(self):
        self.folds("""
            fun main a
            x = call f a
            give x
            fun lone a
            give a
            fun f a
            b = down a
            go f b
            fun self a
            go self a
            fun ring a
            x = call ring2 a
            give x
            fun ring2 a
            go ring a
            fun to a
            go main a
            fun to2 a
            go f a""", """
            fun main a
            x = call f a
            give x
            fun f a
            b = down a
            go f b""")

    def test_the_main_one_stays_whoever_aims_at_it(self):
        self.stays("fun main\nfail stop")
        self.stays("fun main\ngo main")
        self.stays("fun main a\ngo f a\nfun f a\ngo main a")

    def test_two_hundred(self):
        chain = many_functions(200)
        self.assert_same(fold(chain), chain)
        broken = (function("f0", "a", give(of("a"))),) + chain[1:]
        self.assert_same(fold(broken), broken[:1])
        ring = chain[:199] + (function("f199", "a", go("f0", of("a"))),)
        self.assert_same(fold(ring), ring)


class ChanceTest(FoldingCase):
    def test_by_chance(self):
        less = 0
        for names in (20, 50, 80):
            for chance, program in by_chance(150, 10000 + names, names):
                self.keeps_what_is_told(program)
                less += fold(program) != program
                for _ in range(3):
                    self.assert_tells_as(fold(program), program, chance.inputs())
        self.assertGreater(less, 300)

    def test_what_is_handed_in_stays(self):
        programs = [EVERY, MIXED] + [program for _, program in by_chance(30, 11000, 40)]
        for program in programs:
            self.assert_unchanged(fold, program)
            for one in program:
                self.assert_unchanged(folded, one, {"f1": value({"a": 1})})
        self.assert_steady(fold, [(program,) for program in programs])
