"""[25] a go that becomes the block of the function that it goes to."""

from foreknown.joining import join_all, lone_functions
from foreknown.shapes import depth_of, functions_by_name, lines_of
from helping import (Case, EVERY, MIXED, block, by_chance, can_be_done, function, give, go, ifs_within, let,
                     long_function, many_functions, met_in, of, program_of, value, when)


def join(program):
    functions = functions_by_name(program)
    join_all(functions, program[0][0])
    return tuple(functions.values())


def joins_in(program):
    return [thing for thing in can_be_done(program) if thing[0] == "join"]


class JoiningCase(Case):
    def joins(self, source, text):
        program = program_of(source)
        self.assert_same(join(program), program_of(text), source)
        self.keeps_what_is_told(program)

    def keeps_what_is_told(self, program):
        told = join(program)
        self.assert_all_as(told, program)
        self.assertEqual(joins_in(told), [], program)
        self.assert_same(join(told), told)

    def stays(self, source):
        self.joins(source, source)


class HandedTest(JoiningCase):
    def test_names(self):
        self.joins("""
            fun main a
            x = add a 1
            go f x a
            fun f p q
            y = mul p q
            z = sub q p
            w = add y z
            give w""", """
            fun main a
            x = add a 1
            y = mul x a
            z = sub a x
            w = add y z
            give w""")

    def test_values(self):
        self.joins("""
            fun main a
            go f 5 {b:[]} a
            fun f p q r
            y = add p r
            z = front q [1]
            if p
            give z
            else
            go main r
            end""", """
            fun main a
            y = add 5 a
            z = front {b:[]} [1]
            if 5
            give z
            else
            go main a
            end""")

    def test_the_same_name_twice(self):
        self.joins("fun main a\ngo f a a\nfun f p q\nx = sub p q\ngive x", "fun main a\nx = sub a a\ngive x")

    def test_params_turned_round(self):
        self.joins("fun main a b\ngo f b a\nfun f a b\nx = sub a b\ngo main x a",
                   "fun main a b\nx = sub b a\ngo main x b")
        self.joins("fun main a b c\ngo f b c a\nfun f a b c\nx = put a b c\ngive x",
                   "fun main a b c\nx = put b c a\ngive x")

    def test_no_params(self):
        self.joins("fun main\ngo f\nfun f\nfail stop", "fun main\nfail stop")
        self.joins("fun main a\ngo f\nfun f\nx = call main 1\ngive x", "fun main a\nx = call main 1\ngive x")

    def test_six_params(self):
        self.joins("""
            fun main a b c d e f
            go g f e d c b a
            fun g a b c d e f
            x = put a b c
            y = put d e f
            z = front x y
            give z""", """
            fun main a b c d e f
            x = put f e d
            y = put c b a
            z = front x y
            give z""")

    def test_each_kind_of_end_comes(self):
        for end in ("give x", "fail stop", "go main x", "if x\ngive x\nelse\nfail stop\nend"):
            self.joins(f"fun main a\ngo f a\nfun f a\nx = down a\n{end}", f"fun main a\nx = down a\n{end}")


class NamesTest(JoiningCase):
    def test_steps_alike_get_other_names(self):
        program = program_of("""
            fun main a
            x = add a 1
            y = add x 1
            go f y x
            fun f x a
            y = mul x a
            z = sub y x
            give z""")
        told = join(program)
        names = [line[1] for line in told[0][2][0]]
        self.assertEqual(len(set(names) | {"a"}), 5)
        self.assertEqual(len(told), 1)
        self.keeps_what_is_told(program)

    def test_a_step_like_a_name_handed_in(self):
        for named in ("a", "b", "v0", "v1"):
            for other in ("a", "b", "v0", "v1", "x"):
                if named != other:
                    program = (function("main", "a b", let("v0", "add", of("a"), value(1)),
                                        let("v1", "add", of("b"), of("v0")), go("f", of("v1"), of("a"), of("v0"))),
                               function("f", "p q r", let(named, "sub", of("p"), of("q")),
                                        let(other, "sub", of("r"), of(named)), let("z", "mul", of(named), of(other)),
                                        give(of("z"))))
                    self.assertEqual(len(join(program)), 1)
                    self.keeps_what_is_told(program)

    def test_a_step_like_a_param_of_its_own_caller_alone(self):
        """The param a is handed to none, but it is a name of the function still."""
        program = program_of("fun main a\ngo f 5\nfun f p\na = add p 1\ngive a")
        self.keeps_what_is_told(program)
        self.assertEqual(len(join(program)), 1)

    def test_names_in_other_blocks_of_the_function(self):
        program = program_of("""
            fun main a
            if a
            x = add a 1
            give x
            else
            go f a
            end
            fun f a
            x = add a 2
            give x""")
        self.keeps_what_is_told(program)
        self.assertEqual(len(join(program)), 1)

    def test_a_chain_of_alike_names(self):
        chain = tuple(function(f"f{k}", "a", let("x", "add", of("a"), value(k)), go(f"f{k + 1}", of("x")))
                      for k in range(59))
        program = chain + (function("f59", "a", give(of("a"))),)
        self.assertEqual([len(lines_of(one[2])) for one in join(program)], [60])
        self.keeps_what_is_told(program)


class OthersTest(JoiningCase):
    def test_another_go_aims_at_it(self):
        self.stays("fun main a\nif a\ngo f a\nelse\ngo f 1\nend\nfun f a\nx = add a 1\ngive x")
        self.stays("fun main a\nx = call g a\ngo f x\nfun f a\nx = add a 1\ngive x\nfun g a\nif a\ngo f a\nelse\nfail no\nend")

    def test_a_call_aims_at_it(self):
        self.stays("fun main a\nx = call f a\ngo f x\nfun f a\nx = add a 1\ngive x")
        self.stays("fun main a\nx = call g a\ngo f x\nfun f a\nx = add a 1\ngive x\nfun g a\nx = call f a\ngive x")
        self.stays("fun main a\nx = call f a\ngive x\nfun f a\nx = add a 1\ngive x")

    def test_it_aims_at_itself(self):
        self.stays("fun main a\ngo f a\nfun f a\nx = down a\nif x\ngo f x\nelse\ngive x\nend")
        self.stays("fun main a\ngo f a\nfun f a\nx = down a\ny = call f x\ngive y")

    def test_one_that_can_not_be_come_to_aims_at_it(self):
        self.stays("fun main a\ngo f a\nfun f a\nx = add a 1\ngive x\nfun idle a\nx = call f a\ngive x")
        self.stays("fun main a\ngo f a\nfun f a\nx = add a 1\ngive x\nfun idle a\nif a\ngo f a\nelse\ngive a\nend")

    def test_the_main_function_is_never_joined(self):
        self.stays("fun main a\nx = down a\ny = call f x\ngive y\nfun f a\nx = add a 1\ngo main x")
        self.stays("fun main a\ngo main a")

    def test_a_go_in_itself(self):
        self.stays("fun main a\ngive a\nfun f a\ngo f a")

    def test_a_ring(self):
        self.joins("fun main a\nx = down a\ngo f x\nfun f a\nb = call g a\ngo main b\nfun g a\ngive a",
                   "fun main a\nx = down a\nb = call g x\ngo main b\nfun g a\ngive a")
        self.joins("fun main a\nx = down a\ngo f x\nfun f a\ny = down a\ngo g y\nfun g a\nz = down a\ngo f z",
                   "fun main a\nx = down a\ngo f x\nfun f a\ny = down a\nz = down y\ngo f z")

    def test_lone_functions(self):
        program = program_of("""
            fun main a
            x = call f a
            if x
            go g a
            else
            go h a
            end
            fun f a
            go main a
            fun g a
            go h a
            fun h a
            give a
            fun idle a
            give a""")
        functions = functions_by_name(program)
        self.assertEqual(list(lone_functions(functions, "main")), ["f", "g"])


class WhereTest(JoiningCase):
    def test_in_both_blocks_of_an_if_and_deeper(self):
        self.joins("""
            fun main a
            if a
            x = down a
            if x
            go f x
            else
            fail stop
            end
            else
            go g a
            end
            fun f a
            y = add a 1
            give y
            fun g a
            if a
            give a
            else
            go h a
            end
            fun h b
            z = add b 2
            give z""", """
            fun main a
            if a
            x = down a
            if x
            y = add x 1
            give y
            else
            fail stop
            end
            else
            if a
            give a
            else
            z = add a 2
            give z
            end
            end""")

    def test_in_functions_but_the_main_one(self):
        self.joins("""
            fun main a
            x = call f a
            go f x
            fun f a
            y = add a 1
            go g y
            fun g a
            z = add a 2
            give z""", """
            fun main a
            x = call f a
            go f x
            fun f a
            y = add a 1
            z = add y 2
            give z""")

    def test_those_into_which_others_came_are_told(self):
        program = program_of("""
            fun main a
            x = call f a
            y = call h x
            go k y
            fun f a
            go g a
            fun g a
            give a
            fun h a
            give a
            fun k a
            go l a
            fun l a
            give a""")
        functions = functions_by_name(program)
        self.assertEqual(join_all(functions, "main"), ["main", "f"])
        self.assertEqual(list(functions), ["main", "f", "h"])
        self.assertEqual(join_all(functions, "main"), [])
        # One that was joined into is itself joined behind that.
        functions = functions_by_name(program[:1] + program[4:] + program[1:4])
        self.assertEqual(join_all(functions, "main"), ["main", "f"])
        functions = functions_by_name((function("k", "a", go("l", of("a"))), function("main", "a", go("k", of("a"))),
                                       function("l", "a", give(of("a")))))
        self.assertEqual(join_all(functions, "main"), ["main"])
        self.assert_same(tuple(functions.values()), (function("main", "a", give(of("a"))),))


def host(lines, *behind):
    """A main function of so many lines, the last one a go to `long`."""
    steps = [let(f"h{k}", "add", of("a"), value(k)) for k in range(lines - 1)]
    return (function("main", "a", *steps, go("long", of("a"))),) + behind


def in_ifs(depth, side, inmost):
    """A block with so many ifs, in the inmost block of which this end stands."""
    made = block(inmost)
    for _ in range(depth):
        beside = block(give(of("a")))
        made = block(when(of("a"), made, beside) if side == 0 else when(of("a"), beside, made))
    return made


class BoundsTest(JoiningCase):
    def test_sixty_lines_and_no_more(self):
        for lines, others, left in ((1, 60, [60]), (2, 60, [2, 60]), (31, 30, [60]), (31, 31, [31, 31]),
                                    (60, 1, [60]), (60, 2, [60, 2]), (59, 2, [60]), (20, 20, [39])):
            program = host(lines, long_function(others))
            self.assertEqual([len(lines_of(one[2])) for one in join(program)], left)
            self.keeps_what_is_told(program)

    def test_lines_of_all_blocks_count(self):
        """An if with a block beside the go: the if's line and that block's lines, too."""
        for beside, left in ((28, 1), (29, 1), (30, 2)):
            program = (("main", ("a",), block(when(of("a"), long_function(beside)[2],
                                                   block(go("f", of("a")))))),
                       ("f", ("a",), long_function(30)[2]))
            self.assertEqual(len(join(program)), left)
            self.keeps_what_is_told(program)

    def test_eight_ifs_and_no_more(self):
        for outer, inner, left in ((0, 8, 1), (8, 0, 1), (4, 4, 1), (7, 1, 1), (8, 1, 2), (1, 8, 2), (5, 4, 2)):
            for side in (0, 1):
                program = (("main", ("a",), in_ifs(outer, side, go("f", of("a")))),
                           ("f", ("a",), in_ifs(inner, 1 - side, give(value(1)))))
                told = join(program)
                self.assertEqual(len(told), left, (outer, inner))
                self.assertLessEqual(depth_of(told[0][2]), 8)
                self.keeps_what_is_told(program)

    def test_counted_where_the_go_stands(self):
        """Eight ifs in the other block don't stand against it."""
        deep = in_ifs(7, 0, give(value(1)))
        for inner, left in ((7, 1), (8, 2)):
            program = (("main", ("a",), block(when(of("a"), deep, block(go("f", of("a")))))),
                       ("f", ("a",), in_ifs(inner, 0, give(value(2)))))
            self.assertEqual(len(join(program)), left)
            self.keeps_what_is_told(program)

    def test_what_came_counts_for_the_next(self):
        program = host(20, function("long", "a", *[let(f"s{k}", "add", of("a"), value(k)) for k in range(19)],
                                    go("next", of("a"))),
                       function("next", "a", *[let(f"t{k}", "add", of("a"), value(k)) for k in range(21)],
                                give(of("a"))))
        self.assertEqual([len(lines_of(one[2])) for one in join(program)], [60])
        self.keeps_what_is_told(program)
        program = program[:2] + (function("next", "a", *[let(f"t{k}", "add", of("a"), value(k)) for k in range(22)],
                                          give(of("a"))),)
        self.assertEqual([len(lines_of(one[2])) for one in join(program)], [39, 23])
        self.keeps_what_is_told(program)
        program = (("main", ("a",), in_ifs(3, 0, go("f", of("a")))), ("f", ("a",), in_ifs(3, 1, go("g", of("a")))),
                   ("g", ("a",), in_ifs(3, 0, give(of("a")))))
        self.assertEqual([depth_of(one[2]) for one in join(program)], [6, 3])
        self.keeps_what_is_told(program)

    def test_eight_ifs_of_both_sides_come(self):
        for side in (0, 1):
            program = (function("main", "x", go("f", of("x"))), ("f", ("x",), ifs_within(8, side)))
            self.assertEqual(len(join(program)), 1)
            self.keeps_what_is_told(program)

    def test_two_hundred_functions(self):
        self.assert_same(join(many_functions(200)), (function("f0", "a", give(of("a"))),))
        turned = many_functions(200)
        self.assertEqual(len(join(turned[:1] + turned[:0:-1])), 1)
        ring = turned[:199] + (function("f199", "a", go("f0", of("a"))),)
        self.assert_same(join(ring), (function("f0", "a", go("f0", of("a"))),))


class ChanceTest(JoiningCase):
    def test_by_chance(self):
        less = 0
        for functions in (4, 12):
            for chance, program in by_chance(150, 20000, 80, functions):
                program = tuple(one for one in program if one[0] in met_in(program))
                self.keeps_what_is_told(program)
                less += len(join(program)) < len(program)
                for _ in range(3):
                    self.assert_tells_as(join(program), program, chance.inputs())
        self.assertGreater(less, 60)

    def test_what_is_handed_in_stays(self):
        programs = [EVERY, MIXED] + [program for _, program in by_chance(30, 21000)]
        for program in programs:
            self.assert_unchanged(join, program)
        self.assert_steady(join, [(program,) for program in programs])
