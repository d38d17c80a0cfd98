"""[22] how a program is made, [23] and when it is refused."""

from foreknown.checks import check
from foreknown.errors import NotLetBy, TooMany
from foreknown.maker import make
from foreknown.ops import op_of
from foreknown.paper import paper, steady
from foreknown.partings import best
from helping import (BOUND, Case, EVERY, FAULTY, GOOD, MACHINE, POWER, SUMS, WORDS, all_params, function, give, let,
                     long_function, many_functions, of, of_bits, program_of, value)

TOP = BOUND - 1


class MakerCase(Case):
    def makes(self, text, keys, program, parting, known):
        """That this program is made, with these keys."""
        told = make(program, parting, known, 200)
        self.assert_same(told, (program_of(text), keys), program)
        self.assertIsNone(check(told[0]))
        for key, one in zip(told[1], told[0]):
            self.assertEqual(len(one[1]), bin(key[1]).count("1"))

    def makes_best(self, text, keys, source, bits, known, held=()):
        program = program_of(source)
        self.makes(text, keys, program, best(program, bits, held), known)


class LetsTest(MakerCase):
    def test_lets_ahead_are_done_with_each_op(self):
        self.assertEqual(set(GOOD), set(WORDS))
        for word, values in GOOD.items():
            told = op_of(word).answer(values)
            names = "abc"[:len(values)]
            program = (function("main", " ".join(names), let("x", word, *[of(name) for name in names]), give(of("x"))),)
            made = (function("q0", "", give(value(told))),)
            self.assert_same(make(program, best(program, 0, ()), values, 1), (made, (("main", 0, values),)))
            program = (function("main", "a", let("x", word, *[value(one) for one in values]), let("y", "same", of("x"),
                                of("a")), give(of("y"))),)
            made = (function("q0", "a", let("y", "same", value(told), of("a")), give(of("y"))),)
            self.assert_same(make(program, best(program, 1, ()), (), 1), (made, (("main", 1, ()),)))

    def test_lets_ahead_that_fault(self):
        self.assertEqual({word for word, _, _ in FAULTY}, set(WORDS) - {"same", "kind"})
        for word, values, fault in FAULTY:
            names = "abc"[:len(values)]
            program = (function("main", " ".join(names), let("x", word, *[of(name) for name in names]), give(of("x"))),)
            self.assert_same(make(program, best(program, 0, ()), values, 1),
                             ((("q0", (), ((), ("fail", fault))),), (("main", 0, values),)))

    def test_lets_left_with_each_op(self):
        for word, values in GOOD.items():
            atoms = [value(one) for one in values]
            for k in range(len(values)):
                mixed = [of("a") if j == k else of("bcd"[j]) for j in range(len(values))]
                program = (function("main", "a b c d", let("x", word, *mixed), give(of("x"))),)
                known = (values + (0, 0))[:3]
                left = [of("a") if j == k else atoms[j] for j in range(len(values))]
                made = (function("q0", "a", let("x", word, *left), give(of("x"))),)
                self.assert_same(make(program, best(program, 1, ()), known, 1), (made, (("main", 1, known),)))

    def test_the_block_ends_at_a_fault(self):
        self.makes_best("""
            fun q0 a
            x = add a 1
            y = call q1 x
            fail low
            fun q1 a
            give a""", (("main", 1, (0,)), ("f", 1, ())), """
            fun main a b
            x = add a 1
            y = call f x
            z = down b
            w = call g x
            v = add w z
            go g w
            fun f a
            give a
            fun g a
            give a""", 1, (0,))

    def test_a_fault_in_one_block_of_an_if(self):
        source = """
            fun main a b
            c = add b 1
            if a
            x = div c b
            y = call f x a
            give y
            else
            z = add c a
            go g z
            end
            fun f p q
            give p
            fun g a
            give a"""
        self.makes_best("""
            fun q0 a
            if a
            fail nought
            else
            z = add 1 a
            go q1 z
            end
            fun q1 a
            give a""", (("main", 1, (0,)), ("g", 1, ())), source, 1, (0,))
        self.makes_best("""
            fun q0 a
            if a
            y = call q1 a
            give y
            else
            z = add 3 a
            go q2 z
            end
            fun q1 q
            give 1
            fun q2 a
            give a""", (("main", 1, (2,)), ("f", 2, (1,)), ("g", 1, ())), source, 1, (2,))

    def test_known_names_are_written_as_values(self):
        self.makes_best("""
            fun q0 a
            x = put a 0 {a:1}
            y = front [7] x
            give y""", (("main", 1, ({"a": 1}, 7)),), """
            fun main a b c
            d = front c []
            x = put a 0 b
            y = front d x
            give y""", 1, ({"a": 1}, 7))

    def test_a_held_let_whose_atoms_are_known_is_left(self):
        source = "fun main a b\nx = add a 1\ny = add x 1\nz = add a b\nif z\ngive y\nelse\ngive x\nend"
        self.makes_best("fun q0\nx = add 5 1\ny = add x 1\ngive y", (("main", 0, (5, 0)),), source, 0, (5, 0),
                        (("main", "x"),))
        self.makes_best("fun q0\nz = add 5 0\nif z\ngive 7\nelse\ngive 6\nend", (("main", 0, (5, 0)),), source, 0,
                        (5, 0), (("main", "z"),))
        # What would fault is left, too.
        self.makes_best("fun q0\nx = add 'a 1\ny = add x 1\nz = add 'a 0\nif z\ngive y\nelse\ngive x\nend",
                        (("main", 0, ("a", 0)),), source, 0, ("a", 0), (("main", "z"), ("main", "x")))

    def test_words_that_read_like_names(self):
        self.makes_best("fun q0 a\nx = same a 'a\ny = call q1 a\ngive 'x\nfun q1 b\nc = same b 'b\ngive c",
                        (("main", 1, ("a",)), ("f", 1, ("b",))),
                        "fun main a b\nx = same a b\ny = call f a 'b\ngive 'x\nfun f b a\nc = same b a\ngive c", 1,
                        ("a",))


class AimsTest(MakerCase):
    def test_calls_and_goes(self):
        self.makes_best("""
            fun q0 x
            y = call q1 x
            z = call q2 x y
            go q3 z
            fun q1 p
            r = add p 6
            give r
            fun q2 q p
            r = add q p
            give r
            fun q3 p
            r = add p 5
            give r""", (("main", 2, (5,)), ("f", 1, (6,)), ("g", 3, ()), ("f", 1, (5,))), """
            fun main k x
            m = add k 1
            y = call f x m
            z = call g x y
            go f z k
            fun f p k
            r = add p k
            give r
            fun g q p
            r = add q p
            give r""", 2, (5,))

    def test_a_goal_with_more_bits_than_the_need(self):
        program = program_of("fun main a b\nx = call f a b\ngo f b 5\nfun f p q\ngive p")
        first = ("main", 2, ("x",))
        forms = tuple(("f", bits, (), ()) for bits in range(4))
        self.makes("fun q0 b\nx = call q1 7 b\ngo q1 b 5\nfun q1 p q\ngive p", (("main", 2, (7,)), ("f", 3, ())),
                   program, (first + ((3, 3),),) + forms, (7,))
        self.makes("fun q0 b\nx = call q1 b\ngo q2 b\nfun q1 q\ngive 7\nfun q2 p\ngive p",
                   (("main", 2, (7,)), ("f", 2, (7,)), ("f", 1, (5,))), program, (first + ((2, 1),),) + forms, (7,))
        self.makes("fun q0\nx = call q1 7\ngo q2 5\nfun q1 p\ngive p\nfun q2 q\ngive 8",
                   (("main", 0, (7, 8)), ("f", 1, (8,)), ("f", 2, (8,))), program,
                   (("main", 0, ("x",), (1, 2)),) + forms, (7, 8))

    def test_params_held(self):
        self.makes_best("fun q0\ngo q1 4\nfun q1 n\nm = add n 1\ngo q1 m", (("main", 0, (3,)), ("main", 1, ())),
                        "fun main n\nm = add n 1\ngo main m", 0, (3,), (("main", "n"),))

    def test_one_key_for_the_same_values(self):
        self.makes_best("""
            fun q0 a
            p = call q1 a
            q = call q1 p
            r = call q2 q
            go q1 r
            fun q1 a
            give a
            fun q2 a
            give a""", (("main", 1, (3,)), ("f", 1, (3,)), ("f", 1, (4,))), """
            fun main a n
            m = add n 1
            k = sub m 1
            p = call f a n
            q = call f p k
            r = call f q m
            go f r 3
            fun f a n
            give a""", 1, (3,))

    def test_one_key_for_records_put_together_in_another_order(self):
        program = program_of("""
            fun main c
            x = set {a:1} 'b [2]
            y = set {b:[2]} 'a 1
            r = front y []
            s = front c []
            p = call f x
            q = call f y
            t = call f r
            u = call f s
            go f c
            fun f v
            give v""")
        one, other = {"a": 1, "b": (2,)}, {"b": (2,), "a": 1}
        self.makes("""
            fun q0
            p = call q1
            q = call q1
            t = call q2
            u = call q2
            go q1
            fun q1
            give {a:1,b:[2]}
            fun q2
            give [{a:1,b:[2]}]""", (("main", 0, (other,)), ("f", 0, (one,)), ("f", 0, ((one,),))), program,
                   best(program, 0, ()), (other,))

    def test_values_that_are_not_the_same_have_keys_of_their_own(self):
        unlike = (1, 12, -1, (1,), (1, 2), (12,), ((1,), 2), (1, (2,)), ("a", "b"), ("ab",), "a", "ab", (), {}, ((),),
                  ({},), {"a": 1}, {"a": "b"}, {"b": "a"}, {"a": 1, "b": 2}, {"a": 2, "b": 1}, {"ab": 1}, {"a": {"b": 1}})
        calls = [("call", f"x{k}", "f", (value(one),)) for k, one in enumerate(unlike)]
        program = (function("main", "", *calls, give(value(0))), function("f", "a", give(of("a"))))
        told = make(program, best(program, 0, ()), (), 200)
        self.assert_same(told[1], (("main", 0, ()),) + tuple(("f", 0, (one,)) for one in unlike))
        self.assert_same([step[2] for step in told[0][0][2][0]], [f"q{k + 1}" for k in range(len(unlike))])
        for one, made in zip(unlike, told[0][1:]):
            self.assert_same(made[2], ((), ("give", ("is", one))))

    def test_keys_of_other_functions_and_other_bits_are_others(self):
        self.makes_best("""
            fun q0 b
            x = call q1
            y = call q2
            z = call q3 b
            w = call q4 b
            go q5 b w
            fun q1
            give 1
            fun q2
            give 1
            fun q3 q
            give 1
            fun q4 p
            give p
            fun q5 p q
            give p""", (("main", 2, (1,)), ("f", 0, (1, 1)), ("g", 0, (1, 1)), ("f", 2, (1,)), ("f", 1, (1,)),
                        ("f", 3, ())), """
            fun main a b
            x = call f a a
            y = call g a 1
            z = call f a b
            w = call f b a
            go f b w
            fun f p q
            give p
            fun g p q
            give p""", 2, (1,))

    def test_keys_in_the_order_in_which_they_are_met(self):
        told = make(POWER, best(POWER, 2, ()), (3,), 200)
        self.assert_same(told[1], tuple(("main", 2, (n,)) for n in (3, 2, 1, 0)))
        self.makes("""
            fun q0 x
            so = call q1 x
            all = mul so x
            give all
            fun q1 x
            so = call q2 x
            all = mul so x
            give all
            fun q2 x
            give 1""", tuple(("main", 2, (n,)) for n in (2, 1, 0)), POWER, best(POWER, 2, ()), (2,))
        program = program_of("""
            fun main a
            x = call f 1
            y = call g 1
            go h 1
            fun f n
            x = call g n
            go h 2
            fun g n
            go h 3
            fun h n
            give n""")
        self.assert_same([key[0] + str(key[2]) for key in make(program, best(program, 1, ()), (), 200)[1]],
                         ["main()", "f(1,)", "g(1,)", "h(1,)", "h(2,)", "h(3,)"])

    def test_a_function_may_come_to_the_first_key_again(self):
        self.makes_best("fun q0 b\ngo q1 b\nfun q1 b\ngo q0 b", (("main", 2, (1,)), ("main", 2, (0,))),
                        "fun main a b\nc = sub 1 a\ngo main c b", 2, (1,))


class IfsTest(MakerCase):
    SOURCE = """
        fun main a b
        x = add a 0
        if {atom}
        y = add b 1
        z = call f y 1
        go f z x
        else
        w = add b 2
        v = call f w 3
        if b
        go f b 4
        else
        go f v x
        end
        end
        fun f p q
        give p"""
    FIRST = "fun q0 b\ny = add b 1\nz = call q1 y\ngo q{k} z\nfun q1 p\ngive p"
    SECOND = """
        fun q0 b
        w = add b 2
        v = call q1 w
        if b
        go q2 b
        else
        go q3 v
        end
        fun q1 p
        give p
        fun q2 p
        give p
        fun q3 p
        give p"""

    def decided(self, text, atom, known, values):
        keys = (("main", 2, (known,)),) + tuple(("f", 1, (one,)) for one in values)
        self.makes_best(text, keys, self.SOURCE.format(atom=atom), 2, (known,))

    def test_decided_by_a_value(self):
        more = "\nfun q2 p\ngive p"
        for number in ("1", "-1", str(TOP), str(-TOP)):
            self.decided(self.FIRST.format(k=2) + more, number, 9, (1, 9))
        self.decided(self.SECOND, "0", 9, (3, 4, 9))
        for other in ("'a", "[]", "[1]", "{}", "{a:1}", "'x"):
            self.decided("fun q0 b\nfail kind", other, 9, ())

    def test_decided_by_a_known_name(self):
        more = "\nfun q2 p\ngive p"
        for name in ("a", "x"):
            for number in (5, -5, TOP, -TOP):
                self.decided(self.FIRST.format(k=2) + more, name, number, (1, number))
            self.decided(self.FIRST.format(k=1), name, 1, (1,))
            self.decided(self.SECOND, name, 0, (3, 4, 0))

    def test_decided_by_a_known_name_of_no_number(self):
        source = "fun main a b\nx = add b 1\nif a\ny = call main a x\ngive y\nelse\ngo main a b\nend"
        for known in ("a", "b", (), (0,), {}, {"a": 0}):
            self.makes_best("fun q0 b\nx = add b 1\nfail kind", (("main", 2, (known,)),), source, 2, (known,))

    def test_left_with_both_blocks_made_the_first_one_first(self):
        self.makes_best("""
            fun q0 a
            if a
            x = call q1 a
            if x
            go q2 x
            else
            go q3 a
            end
            else
            if a
            y = call q4 a
            give y
            else
            go q2 a
            end
            end
            fun q1 p
            give p
            fun q2 p
            give p
            fun q3 p
            give p
            fun q4 p
            give p""", (("main", 1, (8,)), ("f", 1, (1,)), ("f", 1, (2,)), ("f", 1, (3,)), ("f", 1, (8,))), """
            fun main a k
            if a
            x = call f a 1
            if x
            go f x 2
            else
            go f a 3
            end
            else
            if a
            y = call f a k
            give y
            else
            go f a 2
            end
            end
            fun f p q
            give p""", 1, (8,))

    def test_goals_in_the_lines_order_whatever_is_decided(self):
        """Each call and go has bits of its own, so that another's would be seen."""
        source = """
            fun main n a
            if n
            p = call f 1 1 1
            if n
            q = call f 2 2 2
            go f 3 3 3
            else
            go f 4 4 4
            end
            else
            r = call f 5 5 5
            if a
            go f 6 6 6
            else
            if n
            give a
            else
            s = call f 7 7 7
            go f 0 0 0
            end
            end
            end
            fun f x y z
            give x"""
        program = program_of(source)
        main = ("main", 2, ("p", "q", "r", "s"), (1, 2, 3, 4, 5, 6, 7, 0))
        parting = (main,) + tuple(("f", bits, (), ()) for bits in range(8))
        fs = {bits: ("f", bits, (k,) * (3 - bin(bits).count("1")))
              for bits, k in ((1, 1), (2, 2), (3, 3), (4, 4), (5, 5), (6, 6), (7, 7), (0, 0))}
        self.assert_same(make(program, parting, (1,), 200)[1], (("main", 2, (1,)), fs[1], fs[2], fs[3]))
        self.assert_same(make(program, parting, (0,), 200)[1], (("main", 2, (0,)), fs[5], fs[6], fs[7], fs[0]))
        parting = (("main", 3) + main[2:],) + parting[1:]
        self.assert_same(make(program, parting, (), 200)[1],
                         (("main", 3, ()),) + tuple(fs[bits] for bits in (1, 2, 3, 4, 5, 6, 7, 0)))

    def test_an_if_on_a_later_let_whose_atoms_are_known(self):
        program = program_of("fun main a\nx = add a 1\nif x\ngive 1\nelse\ngive 2\nend")
        self.makes("fun q0\nx = add -1 1\nif x\ngive 1\nelse\ngive 2\nend", (("main", 0, (-1,)),), program,
                   (("main", 0, ("x",), ()),), (-1,))
        self.makes("fun q0\ngive 2", (("main", 0, (-1,)),), program, (("main", 0, (), ()),), (-1,))

    def test_lines_of_the_chosen_blocks_follow_one_another(self):
        self.makes_best("fun q0 a\nx = add a 1\ny = add x 2\nz = add y 3\ngive z", (("main", 1, ()),), """
            fun main a
            x = add a 1
            if 1
            y = add x 2
            if 0
            give y
            else
            z = add y 3
            give z
            end
            else
            fail no
            end""", 1, ())

    def test_ifs_within_one_another_as_deep_as_may_be(self):
        for side in (0, 1):
            ran = ((), ("give", ("of", "b")))
            for level in range(8, 0, -1):
                step = let(f"s{level}", "add", of("b"), value(level))
                beside = ((), ("fail", "no"))
                blocks = (ran, beside) if side == 0 else (beside, ran)
                ran = ((step,), ("if", of("a"), *blocks))
            program = (("main", ("a", "b"), ran),)
            steps = tuple(let(f"s{level}", "add", of("b"), value(level)) for level in range(1, 9))
            self.assert_same(make(program, best(program, 2, ()), (1 - side,), 1)[0],
                             (("q0", ("b",), (steps, ("give", ("of", "b")))),))
            self.assert_same(make(program, best(program, 3, ()), (), 1)[0], (("q0", ("a", "b"), ran),))


class EndsTest(MakerCase):
    def test_give_and_fail(self):
        self.makes_best("fun q0 a\ngive a", (("main", 1, (5,)),), "fun main a b\ngive a", 1, (5,))
        self.makes_best("fun q0 a\ngive 5", (("main", 1, (5,)),), "fun main a b\ngive b", 1, (5,))
        self.makes_best("fun q0 a\ngive 'b", (("main", 1, (5,)),), "fun main a b\ngive 'b", 1, (5,))
        self.makes_best("fun q0 a\nfail b", (("main", 1, (5,)),), "fun main a b\nfail b", 1, (5,))
        self.makes_best("fun q0\ngive {a:[1]}", (("main", 0, ({"a": (1,)},)),), "fun main a\ngive a", 0,
                        ({"a": (1,)},))

    def test_no_params(self):
        self.makes_best("fun q0\nx = call q1\ngo q1\nfun q1\ngive 3", (("main", 0, ()), ("f", 0, ())),
                        "fun main\nx = call f\ngo f\nfun f\na = add 1 2\ngive a", 0, ())

    def test_six_params_with_each_bits(self):
        program = program_of("fun main a b c d e f\ngo main f e d c b a")
        names = "abcdef"
        inputs = (1, 2, 3, 4, 5, 6)
        for bits in range(64):
            told = make(program, best(program, bits, ()), of_bits(bits, inputs, False), 200)
            back = sum(1 << k for k in range(6) if bits >> (5 - k) & 1)
            self.assert_same(told[1][0], ("main", bits, of_bits(bits, inputs, False)))
            self.assert_same(told[0][0][1], of_bits(bits, tuple(names), True))
            # The atoms handed on at later params are those of later params.
            handed = tuple(("of", names[5 - k]) for k in range(6) if back >> k & 1)
            self.assert_same(told[0][0][2][1][2], handed)
            self.assert_same(told[0][0][2][1][1], "q1" if len(told[0]) > 1 else "q0")
            if len(told[1]) > 1:
                self.assert_same(told[1][1], ("main", back, of_bits(back, inputs[::-1], False)))

    def test_functions_that_none_comes_to_are_not_made(self):
        self.makes_best("fun q0 a\ngive a", (("main", 1, ()),), "fun main a\ngive a\nfun f a\ngo main a", 1, ())
        program = program_of("fun main a\ngive a\nfun f a\ngo main a")
        self.makes("fun q0 a\ngive a", (("main", 1, ()),), program, (("main", 1, (), ()), ("f", 1, (), (1,))), ())

    def test_the_whole_program_where_nothing_is_known(self):
        told = make(EVERY, best(EVERY, 63, all_params(EVERY)), (), 200)
        self.assertEqual(len(told[0]), 5)
        self.assert_same(told[0][0][1], tuple("abcdef"))

    def test_large_programs(self):
        told = make(many_functions(200), best(many_functions(200), 0, ()), ("a",), 200)
        self.assertEqual(len(told[0]), 200)
        self.assert_same(told[0][199], function("q199", "", give(value("a"))))
        self.assert_same(told[1], tuple((f"f{k}", 0, ("a",)) for k in range(200)))
        program = (long_function(60),)
        self.assert_same(make(program, best(program, 0, ()), (5,), 1)[0], (function("q0", "", give(value(5))),))
        self.assert_same(make(program, best(program, 1, ()), (), 1)[0], (("q0",) + program[0][1:],))


class RefusalsTest(MakerCase):
    COUNTING = program_of("fun main n x\nif n\nm = down n\ngo main m x\nelse\ngive x\nend")

    def test_too_many(self):
        parting = best(self.COUNTING, 2, ())
        for n in (1, 2, 10, 199):
            for limit in (n + 1, 200):
                self.assertEqual(len(make(self.COUNTING, parting, (n,), limit)[0]), n + 1)
            self.assert_refused(TooMany, {"limit": n}, make, self.COUNTING, parting, (n,), n)
        self.assert_refused(TooMany, {"limit": 1}, make, self.COUNTING, parting, (199,), 1)
        self.assert_refused(TooMany, {"limit": 200}, make, self.COUNTING, parting, (200,), 200)
        self.assert_refused(TooMany, {"limit": 200}, make, self.COUNTING, parting, (TOP,), 200)
        self.assertEqual(len(make(self.COUNTING, parting, (0,), 1)[0]), 1)
        self.assertEqual(len(make(self.COUNTING, parting, ("a",), 1)[0]), 1)

    def test_ever_new_keys(self):
        program = program_of("fun main n x\nm = add n 1\ngo main m x")
        for limit in (1, 7, 200):
            self.assert_refused(TooMany, {"limit": limit}, make, program, best(program, 2, ()), (0,), limit)
        self.assertEqual(len(make(program, best(program, 2, ()), (TOP - 9,), 10)[0]), 10)
        self.assert_refused(TooMany, {"limit": 9}, make, program, best(program, 2, ()), (TOP - 9,), 9)

    def test_keys_that_are_met_again_are_not_counted(self):
        program = program_of("fun main n x\nm = sub 3 n\ngo main m x")
        self.assertEqual(len(make(program, best(program, 2, ()), (1,), 2)[0]), 2)
        self.assert_refused(TooMany, {"limit": 1}, make, program, best(program, 2, ()), (1,), 1)

    def test_what_is_not_made_meets_no_keys(self):
        program = program_of("fun main n\nif n\nx = down 0\ngo main 0\nelse\ngive n\nend")
        self.assertEqual(len(make(program, best(program, 1, ()), (), 1)[0]), 1)

    def test_not_let_by(self):
        program = program_of("fun main a b\nx = add a 1\ny = call f x b\ngo f y b\nfun f p q\ngive p")
        good = best(program, 1, ())
        self.assert_same(good, (("main", 1, ("x", "y"), (1, 1)), ("f", 1, (), ())))
        for first, row in ((("main", 1, ("y",), (1, 1)), ("let", "main", 1, "x")),
                           (("main", 1, ("x",), (1, 1)), ("call", "main", 1, "y")),
                           (("main", 1, ("x", "y"), (1, 2)), ("goal", "main", 1, 1)),
                           (("main", 1, ("x", "y"), (3, 1)), ("form", "main", 1, 0)),
                           (("main", 1, (), (0, 0)), ("let", "main", 1, "x"))):
            for limit in (1, 2, 200):
                self.assert_refused(NotLetBy, {"row": row}, make, program, (first, good[1]), (5,), limit)

    def test_not_let_by_ahead_of_all_else(self):
        """Also where what is broken is never come to, and ahead of too many keys."""
        parting = best(self.COUNTING, 2, ())
        for limit in (1, 200):
            self.assert_refused(NotLetBy, {"row": ("form", "main", 1, 0)}, make, self.COUNTING,
                                parting + (("main", 1, ("m",), (3,)),), (300,), limit)
            self.assert_refused(NotLetBy, {"row": ("let", "main", 3, "m")}, make, self.COUNTING,
                                parting + (("main", 3, (), (3,)),), (0,), limit)

    def test_where_a_loop_is_shown_but_few_keys_are_met(self):
        program = program_of("fun main n x\nif n\nm = sub n 1\ny = add x n\ngo main m y\nelse\ngive x\nend")
        parting = best(program, 2, ())
        self.assertEqual(paper(program, parting)[0], "loop")
        self.assert_same(make(program, parting, (3,), 4)[1], tuple(("main", 2, (n,)) for n in (3, 2, 1, 0)))
        self.assertEqual(paper(SUMS, best(SUMS, 2, ()))[0], "loop")
        self.assert_same(make(SUMS, best(SUMS, 2, ()), (3,), 6)[1],
                         (("main", 2, (3,)), ("loop", 2, (3, 0)), ("loop", 2, (2, 3)), ("twice", 1, ()),
                          ("loop", 2, (1, 5)), ("loop", 2, (0, 6))))


class NothingKeptTest(MakerCase):
    RECORDS = program_of("""
        fun main c n
        d = set c 'b n
        e = set {a:1,b:2} 'c c
        f = call f e d
        give f
        fun f e d
        x = field e 'c
        y = set x 'd d
        give y""")

    def test_nothing_is_changed(self):
        known = ({"z": 1, "a": {"y": 1, "b": 2}},)
        for bits, values in ((2, known), (1, (3,)), (0, known + (3,)), (3, ())):
            self.assert_unchanged(make, self.RECORDS, best(self.RECORDS, bits, ()), values, 200)
        self.assert_unchanged(make, POWER, best(POWER, 2, ()), (5,), 3)
        self.assert_unchanged(make, POWER, (("main", 2, (), (2,)),), (5,), 3)

    def test_asked_again(self):
        asked = [(POWER, best(POWER, 2, ()), (n,), 200) for n in (1, 5, 3)]
        asked += [(MACHINE, best(MACHINE, 2, ()), (code,), 200)
                  for code in ((), (("add", 2),), (("loop", (("add", -1),)), ("mul", 2)))]
        asked += [(SUMS, best(SUMS, bits, steady(SUMS, bits)), known, 200) for bits, known in ((2, (3,)), (3, ()))]
        asked += [(self.RECORDS, best(self.RECORDS, 2, ()), ({"z": 1, "a": 2},), 200)]
        self.assert_steady(make, asked)
