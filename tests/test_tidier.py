"""[25] what tidying does, until nothing can be done, [26] and what stays as it was."""

from foreknown.checks import check
from foreknown.errors import TooMany
from foreknown.maker import make
from foreknown.paper import steady
from foreknown.partings import best
from foreknown.reading import read
from foreknown.runner import run
from foreknown.shapes import depth_of, lines_of
from foreknown.tidier import tidied
from foreknown.writing import show
from helping import (BOUND, Case, Chance, EVERY, FAULTY, GOOD, MACHINE, MIXED, POWER, SUMS, block, by_chance,
                     call, can_be_done, function, give, go, ifs_within, is_put_in_order, let, long_function,
                     many_functions, of, of_bits, program_of, value, when)


class TidierCase(Case):
    def tidies(self, source, text):
        program = program_of(source)
        self.assert_same(tidied(program), program_of(text), source)
        self.is_tidied_well(program)

    def is_tidied_well(self, program, budget=400):
        told = tidied(program)
        self.assert_all_as(told, program, budget)
        self.assertEqual(can_be_done(told), [], program)
        self.assertTrue(is_put_in_order(told), told)
        self.assertEqual(len(told[0][1]), len(program[0][1]))
        self.assert_same(tidied(told), told)
        self.assert_same(read(show(told)), told)
        return told


class EachAloneTest(TidierCase):
    def test_a_function_that_can_not_be_come_to(self):
        self.tidies("""
            fun main a
            x = down a
            if x
            go main x
            else
            give x
            end
            fun f a
            b = add a 1
            go g b
            fun g a
            b = add a 1
            go main b""", """
            fun q0 v0
            v1 = down v0
            if v1
            go q0 v1
            else
            give v1
            end""")

    def test_a_call_of_what_gives_a_value(self):
        self.tidies("fun main a\nx = call f a\ny = add x a\ngive y\nfun f a\ngive 5",
                    "fun q0 v0\nv1 = add 5 v0\ngive v1")

    def test_a_go_to_what_gives_a_value(self):
        self.tidies("fun main a\nif a\ngo f a\nelse\ngo f 1\nend\nfun f a\ngive {a:[1]}",
                    "fun q0 v0\nif v0\ngive {a:[1]}\nelse\ngive {a:[1]}\nend")

    def test_a_let_of_values(self):
        self.tidies("fun main a\nx = add 1 2\ny = add a x\ngive y", "fun q0 v0\nv1 = add v0 3\ngive v1")
        for word, values in GOOD.items():
            program = (function("main", "", let("x", word, *[value(one) for one in values]), give(of("x"))),)
            self.assert_same(tidied(program), (function("q0", "", give(value(run(program, (), 2)[1]))),))

    def test_a_let_of_values_that_faults(self):
        for word, values, fault in FAULTY:
            program = (function("main", "a", let("w", "add", of("a"), value(1)),
                                let("x", word, *[value(one) for one in values]), call("y", "main", of("x")),
                                give(of("y"))),)
            self.assert_same(tidied(program), (function("q0", "v0", let("v1", "add", of("v0"), value(1)),
                                                        ("fail", fault)),))

    def test_an_if_on_a_value(self):
        source = "fun main a\nb = add a 1\nif {}\nc = add b 2\ngive c\nelse\nd = add b 3\ngive d\nend"
        for written, added in (("1", 2), ("-1", 2), (str(BOUND - 1), 2), ("0", 3)):
            self.tidies(source.replace("{}", written), f"fun q0 v0\nv1 = add v0 1\nv2 = add v1 {added}\ngive v2")
        for written in ("'a", "[]", "[1]", "{}", "{a:1}"):
            self.tidies(source.replace("{}", written), "fun q0 v0\nv1 = add v0 1\nfail kind")

    def test_a_let_of_same_or_kind_that_none_reads(self):
        self.tidies("fun main a\nx = same a 1\ny = kind a\nz = add a 1\ngive z", "fun q0 v0\nv1 = add v0 1\ngive v1")

    def test_a_go_that_no_other_aim_stands_beside(self):
        self.tidies("fun main a b\nx = sub a b\ngo f b x\nfun f a b\nx = mul a b\ny = sub x a\ngive y",
                    "fun q0 v0 v1\nv2 = sub v0 v1\nv3 = mul v1 v2\nv4 = sub v3 v1\ngive v4")

    def test_nothing_else_is_done(self):
        """No let that may fault is taken out, nothing twice is done once, no call is joined."""
        for text in ("fun q0 v0\nv1 = add v0 0\nv2 = mul v1 1\ngive v2", "fun q0 v0\nv1 = add v0 1\ngive v0",
                     "fun q0 v0\nv1 = add v0 1\nv2 = add v0 1\nv3 = add v1 v2\ngive v3",
                     "fun q0 v0\nv1 = call q1 v0\ngive v1\nfun q1 v0\ngive v0",
                     "fun q0 v0\nif v0\nfail stop\nelse\nfail stop\nend",
                     "fun q0 v0\nv1 = call q1 v0\nv2 = call q1 v1\ngive v2\nfun q1 v0\nv1 = add v0 1\ngive v1",
                     "fun q0 v0\nif v0\ngo q1 v0 1\nelse\ngo q1 v0 1\nend\nfun q1 v0 v1\nv2 = add v0 v1\ngive v2",
                     "fun q0 v0\nv1 = same v0 v0\ngive v1", "fun q0 v0\ngo q0 v0", "fun q0 v0\ngo q0 5",
                     "fun q0 v0\nv1 = call q0 5\ngive 7", "fun q0 v0 v1\ngive v0", "fun q0 v0\ngive 1",
                     "fun q0\nv0 = call q1\ngive v0\nfun q1\nfail stop"):
            self.tidies(text, text)


class OneBehindAnotherTest(TidierCase):
    def test_a_join_brings_values_and_these_decide(self):
        self.tidies("""
            fun main a
            go f 0 a
            fun f n a
            if n
            x = call g a
            go h x
            else
            y = add n 2
            go k y a
            end
            fun g a
            b = call h a
            give b
            fun h a
            b = down a
            give b
            fun k n a
            m = mul n a
            o = same n 2
            if o
            go h m
            else
            go g m
            end""", """
            fun q0 v0
            v1 = mul 2 v0
            v2 = down v1
            give v2""")

    def test_a_dropped_function_lets_another_be_joined(self):
        self.tidies("fun main a\nx = add a 1\ngo f x\nfun f a\nx = add a 2\ngive x\nfun idle a\nx = call f a\ngive x",
                    "fun q0 v0\nv1 = add v0 1\nv2 = add v1 2\ngive v2")

    def test_a_call_taken_out_lets_a_function_be_joined(self):
        self.tidies("""
            fun main a
            x = call zero a
            if x
            y = call f a
            give y
            else
            go f a
            end
            fun zero a
            give 0
            fun f a
            z = add a 1
            give z""", "fun q0 v0\nv1 = add v0 1\ngive v1")

    def test_a_joined_function_gives_a_value(self):
        self.tidies("""
            fun main a
            x = call f a
            y = add x a
            z = call f y
            w = add z y
            give w
            fun f a
            b = kind a
            go g 3
            fun g a
            b = add a 1
            go h b
            fun h a
            give a""", """
            fun q0 v0
            v1 = add 4 v0
            v2 = add 4 v1
            give v2""")

    def test_a_join_alone_makes_a_function_give_a_value(self):
        self.tidies("fun main a\nx = call f a\ny = add x a\ngive y\nfun f a\ngo g 3\nfun g a\ngive a",
                    "fun q0 v0\nv1 = add 3 v0\ngive v1")

    def test_an_idle_let_keeps_a_function_from_giving_a_value(self):
        self.tidies("fun main a\nx = call f a\ngo g x a\nfun f a\nb = same a 1\ngive 6\nfun g a b\nc = sub a b\ngive c",
                    "fun q0 v0\nv1 = sub 6 v0\ngive v1")

    def test_lines_done_make_room(self):
        """Sixty lines would be too many, but for those that are done ahead."""
        done = [let(f"d{k}", "add", value(k), value(1)) for k in range(10)]
        left = [let(f"l{k}", "add", of("a"), value(k)) for k in range(30)]
        program = (function("main", "a", *done, *left, go("f", of("a"))),
                   function("f", "a", *done, *left[1:], give(of("a"))))
        self.assertEqual([len(lines_of(one[2])) for one in self.is_tidied_well(program)], [60])

    def test_ifs_decided_make_room(self):
        """Twelve ifs would be too many, but for the four that are decided."""
        beside = block(give(value(1)))
        there, here = block(give(of("a"))), block(go("f", of("a")))
        for _ in range(4):
            there, here = block(when(of("a"), there, beside)), block(when(of("a"), here, beside))
        for k in range(4):
            here = block(when(value(k % 2), here, beside) if k % 2 else when(value(k % 2), beside, here))
        program = (("main", ("a",), here), ("f", ("a",), there))
        self.assertEqual([depth_of(one[2]) for one in self.is_tidied_well(program)], [8])

    def test_what_is_told_at_a_join_s_end_is_handed_on(self):
        """Counting down a known number: each go is joined into the one before."""
        texts = ["fun main a\ngo f5 5 a"]
        for k in range(5, 0, -1):
            texts.append(f"fun f{k} n a\nm = down n\nx = mul a n\nif m\ngo f{k - 1} m x\nelse\nfail stop\nend")
        texts.append("fun f0 n a\ngive a")
        self.tidies("\n".join(texts), """
            fun q0 v0
            v1 = mul v0 5
            v2 = mul v1 4
            v3 = mul v2 3
            v4 = mul v3 2
            v5 = mul v4 1
            fail stop""")

    def test_a_main_function_alone_at_last(self):
        self.tidies("fun main a b\ngo f\nfun f\nx = call g\ny = mul x x\ngive y\nfun g\ngo h 1 2\nfun h a b\nx = add a b\ngive x",
                    "fun q0 v0 v1\ngive 9")

    def test_a_value_that_goes_round(self):
        self.tidies("fun main\ngo f 1\nfun f a\nx = sub 1 a\ny = call main\ngo g x y\nfun g a b\ngo f a",
                    "fun q0\ngo q1 1\nfun q1 v0\nv1 = sub 1 v0\nv2 = call q0\ngo q1 v1")


class OrderAtLastTest(TidierCase):
    def test_the_order_is_that_of_what_is_left(self):
        """What is dropped, decided or joined has no part in it."""
        self.tidies("""
            fun main a
            x = call none a
            if x
            y = call c a
            give y
            else
            z = call b a
            go j z
            end
            fun none a
            give 0
            fun a a
            s = add a 1
            give s
            fun b a
            s = call a a
            t = call c s
            give t
            fun c a
            s = sub a 1
            give s
            fun j a
            s = call c a
            t = call a s
            give t""", """
            fun q0 v0
            v1 = call q1 v0
            v2 = call q2 v1
            v3 = call q3 v2
            give v3
            fun q1 v0
            v1 = call q3 v0
            v2 = call q2 v1
            give v2
            fun q2 v0
            v1 = sub v0 1
            give v1
            fun q3 v0
            v1 = add v0 1
            give v1""")

    def test_params_of_the_main_function_stay(self):
        for params in ("", "a", "a b", "a b c d e f"):
            program = (function("main", params, let("x", "add", value(1), value(1)), give(of("x"))),)
            names = " ".join(f"v{k}" for k in range(len(params.split())))
            self.assert_same(tidied(program), (function("q0", names, give(value(2))),))


class BoundsTest(TidierCase):
    def test_chains_of_goes(self):
        self.assert_same(tidied(many_functions(200)), (function("q0", "v0", give(of("v0"))),))
        # Each hands on what it has done: as many are joined as lines allow.
        chain = tuple(function(f"f{k}", "a", let("x", "add", of("a"), value(1)), go(f"f{k + 1}", of("x")))
                      for k in range(199)) + (function("f199", "a", give(of("a"))),)
        told = self.is_tidied_well(chain)
        self.assertLessEqual(max(len(lines_of(one[2])) for one in told), 60)
        self.assertLessEqual(len(told), 7)
        self.assert_same(run(told, (5,), 500)[:2], ("told", 204))
        # With all known, all is done.
        self.assert_same(tidied((function("main", "", go("f0", value(5))),) + chain[:-2]
                                + (function("f198", "a", give(of("a"))),)), (function("q0", "", give(value(203))),))

    def test_sixty_lines_and_no_more(self):
        for first, second, left in ((1, 60, [60]), (31, 30, [60]), (31, 31, [31, 31]), (60, 1, [60]), (60, 2, [60, 2])):
            steps = [let(f"h{k}", "add", of("a"), value(k)) for k in range(first - 1)]
            program = (function("main", "a", *steps, go("long", of("a"))), long_function(second))
            self.assertEqual([len(lines_of(one[2])) for one in self.is_tidied_well(program)], left)

    def test_eight_ifs_and_no_more(self):
        for depths, left in (((8,), [8]), ((4, 4), [8]), ((4, 5), [4, 5]), ((8, 0, 1), [8, 1]), ((3, 3, 2), [8]),
                             ((1,) * 8, [8]), ((1,) * 9, [8, 1])):
            program = []
            for k, depth in enumerate(depths):
                made = block(go(f"f{k + 1}", of("a")) if k + 1 < len(depths) else give(of("a")))
                for _ in range(depth):
                    made = block(when(of("a"), made, block(give(value(k)))))
                program.append((f"f{k}", ("a",), made))
            self.assertEqual([depth_of(one[2]) for one in self.is_tidied_well(tuple(program))], left, depths)

    def test_rings(self):
        chain = many_functions(200)
        for back in (0, 1, 57, 199):
            ring = chain[:199] + (function("f199", "a", let("x", "down", of("a")), go(f"f{back}", of("x"))),)
            told = self.is_tidied_well(ring)
            self.assertEqual(len(told), 1 if back == 0 else 2)
        # Two rings, one of calls, that meet in the main function.
        program = program_of("""
            fun main a
            x = call b a
            go c x
            fun b a
            y = call d a
            give y
            fun d a
            z = call main a
            give z
            fun c a
            w = down a
            go e w
            fun e a
            v = down a
            if v
            go c v
            else
            go main v
            end""")
        self.assertEqual(len(self.is_tidied_well(program)), 4)

    def test_ring_that_none_comes_to(self):
        ring = tuple(function(f"r{k}", "a", call("x", f"r{(k + 1) % 198}", of("a")), go("f", of("x"))) for k in range(198))
        program = (function("main", "a", go("f", of("a"))), function("f", "a", let("x", "down", of("a")), give(of("x"))))
        self.assert_same(tidied(program + ring), (function("q0", "v0", let("v1", "down", of("v0")), give(of("v1"))),))

    def test_two_hundred_functions_of_sixty_lines(self):
        steps = [let(f"s{k}", "add", of("a"), value(k)) for k in range(57)]
        program = tuple(function(f"f{k}", "a", *steps, call("x", f"f{(k * 2 + 1) % 200}", of("a")),
                                 call("y", f"f{(k * 2 + 2) % 200}", of("a")), give(of("y"))) for k in range(200))
        self.assertEqual(len(tidied(program)), 200)
        self.assertEqual(can_be_done(tidied(program)), [])

    def test_as_many_functions_that_give_values_one_behind_another(self):
        steps = [let(f"s{k}", "add", of(f"s{k - 1}") if k else of("x"), value(k)) for k in range(57)]
        callers = tuple(function(f"f{k}", "a", call("x", f"f{k + 1}", of("a")), *steps, let("y", "rem", of("s56"), value(9)),
                                 give(of("y"))) for k in range(199))
        program = callers + (function("f199", "a", give(value(1))),)
        self.assertEqual(len(tidied(program)), 1)
        self.assert_same(run(tidied(program), (0,), 9), ("told", run(program, (0,), 100000)[1], 1))

    def test_deep_and_long(self):
        for side in (0, 1):
            self.is_tidied_well((("main", ("x",), ifs_within(8, side)),))
        self.is_tidied_well((long_function(60),))


class ChanceTest(TidierCase):
    def test_programs_at_hand(self):
        for program in (EVERY, MACHINE, MIXED, POWER, SUMS):
            self.is_tidied_well(program)

    def test_by_chance(self):
        done = {}
        for names, functions in ((20, 5), (50, 5), (80, 5), (65, 14)):
            for chance, program in by_chance(120, 30000 + names, names, functions):
                for thing in can_be_done(program):
                    done[thing[0]] = done.get(thing[0], 0) + 1
                told = self.is_tidied_well(program, 100)
                for _ in range(4):
                    self.assert_tells_as(told, program, chance.inputs())
        self.assertEqual(set(done), {"drop", "answer", "let", "if", "idle", "join"})
        self.assertGreater(min(done.values()), 40, done)

    def test_what_is_made_by_chance(self):
        made = 0
        for chance, program in by_chance(150, 31000):
            bits = chance.bits(program[0])
            inputs = chance.inputs()
            try:
                left = make(program, best(program, bits, steady(program, bits)), of_bits(bits, inputs, False), 200)[0]
            except TooMany:
                continue
            made += 1
            told = self.is_tidied_well(left, 100)
            self.assert_tells_as(told, left, of_bits(bits, inputs, True))
        self.assertGreater(made, 100)

    def test_many_functions_by_chance(self):
        for seed in range(4):
            chance = Chance(32000 + seed, 60)
            program = chance.program(200)
            told = tidied(program)
            self.assertIsNone(check(told))
            self.assertEqual(can_be_done(told), [])
            for _ in range(3):
                self.assert_tells_as(told, program, chance.inputs())

    def test_what_is_handed_in_stays(self):
        programs = [EVERY, MIXED, MACHINE] + [program for _, program in by_chance(30, 33000, 50)]
        for program in programs:
            self.assert_unchanged(tidied, program)
        self.assert_steady(tidied, [(program,) for program in programs])
