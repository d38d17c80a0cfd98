"""[7] lines, depth, aims, steps and values of programs."""

from foreknown.shapes import aims_of, depth_of, function_by, lines_of, steps_of, values_of
from helping import (Case, EVERY, block, call, fail, function, give, go, ifs_within, let, long_function,
                     many_functions, of, value, when)

ENDS = (give(of("a")), give(value((1,))), go("f", of("a"), value(2)), go("f"), fail("stop"))

INMOST_FIRST = block(call("p", "f", of("a")), go("g", of("p"), value(1)))
INMOST_SECOND = block(let("q", "down", value(2)), fail("low"))
INNER = when(value(3), INMOST_FIRST, INMOST_SECOND)
FIRST = block(let("r", "add", value(4), of("a")), INNER)
SECOND = block(call("s", "h"), call("t", "f", of("s"), of("a")), go("f", value("a")))
OUTER = when(of("a"), FIRST, SECOND)
TREE = block(let("a", "kind", value(())), call("b", "g", value(5)), OUTER)


class LinesOfTest(Case):
    def test_without_ifs(self):
        for end in ENDS:
            self.assert_same(lines_of(block(end)), (end,))
            first = let("x", "add", value(1), value(2))
            second = call("y", "f", of("x"))
            self.assert_same(lines_of(block(first, second, end)), (first, second, end))

    def test_ifs_within_one_another(self):
        self.assert_same(lines_of(TREE), (
            let("a", "kind", value(())), call("b", "g", value(5)), OUTER,
            let("r", "add", value(4), of("a")), INNER,
            call("p", "f", of("a")), go("g", of("p"), value(1)),
            let("q", "down", value(2)), fail("low"),
            call("s", "h"), call("t", "f", of("s"), of("a")), go("f", value("a"))))

    def test_eight_ifs_deep(self):
        for side in (0, 1):
            for depth in range(9):
                made = ifs_within(depth, side)
                kinds = [line[1] if line[0] == "let" else line[0] for line in lines_of(made)]
                outward = range(depth, 0, -1)
                if side == 0:
                    expected = [word for k in range(1, depth + 1) for word in (f"a{k}", "if")] + ["in", "give"]
                    expected += [word for k in outward for word in (f"b{k}", "fail")]
                else:
                    expected = [word for k in range(1, depth + 1) for word in (f"a{k}", "if", f"b{k}", "fail")]
                    expected += ["in", "give"]
                self.assertEqual(kinds, expected)
                self.assertIs(type(lines_of(made)), tuple)

    def test_sixty_lines(self):
        made = long_function(60)[2]
        self.assertEqual(len(lines_of(made)), 60)
        self.assert_same(lines_of(made), made[0] + (made[1],))


class DepthOfTest(Case):
    def test_depth(self):
        for end in ENDS:
            self.assert_same(depth_of(block(end)), 0)
            self.assert_same(depth_of(block(let("x", "kind", value(1)), end)), 0)
        for side in (0, 1):
            for depth in range(9):
                self.assert_same(depth_of(ifs_within(depth, side)), depth)
        self.assert_same(depth_of(TREE), 2)

    def test_ifs_beside_one_another_count_once(self):
        one = block(when(value(1), block(fail("a")), block(fail("b"))))
        self.assert_same(depth_of(one), 1)
        self.assert_same(depth_of(block(when(value(1), one, one))), 2)
        self.assert_same(depth_of(block(when(value(1), ifs_within(2, 0), ifs_within(5, 1)))), 6)
        self.assert_same(depth_of(block(when(value(1), ifs_within(5, 1), ifs_within(2, 0)))), 6)


class AimsOfTest(Case):
    def test_aims(self):
        self.assert_same(aims_of(block(fail("a"))), ())
        self.assert_same(aims_of(block(let("x", "add", value(1), value(2)), give(of("x")))), ())
        self.assert_same(aims_of(block(go("f"))), (("f", ()),))
        self.assert_same(aims_of(block(call("x", "f", of("a"), value((1,))), go("g", of("x")))),
                         (("f", (of("a"), value((1,)))), ("g", (of("x"),))))
        self.assert_same(aims_of(TREE), (
            ("g", (value(5),)), ("f", (of("a"),)), ("g", (of("p"), value(1))), ("h", ()),
            ("f", (of("s"), of("a"))), ("f", (value("a"),))))

    def test_eight_deep(self):
        for side in (0, 1):
            made = block(call("n", "m", value(0)), go("inmost", of("n")))
            for k in range(8):
                beside = block(go(f"g{k}", value(k)))
                made = block(call(f"c{k}", f"f{k}"), when(of(f"c{k}"), *((made, beside) if side == 0 else
                                                                       (beside, made))))
            calls = [(f"f{k}", ()) for k in range(7, -1, -1)]
            goes = [(f"g{k}", (value(k),)) for k in range(8)]
            inmost = [("m", (value(0),)), ("inmost", (of("n"),))]
            mixed = [aim for pair in zip(calls, goes[::-1]) for aim in pair]
            expected = calls + inmost + goes if side == 0 else mixed + inmost
            self.assert_same(aims_of(made), tuple(expected))


class StepsOfTest(Case):
    def test_steps(self):
        for end in ENDS:
            self.assert_same(steps_of(block(end)), ())
        self.assert_same(steps_of(block(let("x", "kind", of("a")), call("y", "f"), give(of("x")))), ("x", "y"))
        self.assert_same(steps_of(TREE), ("a", "b", "r", "p", "q", "s", "t"))

    def test_eight_deep(self):
        inward = [f"a{k}" for k in range(1, 9)]
        outward = [f"b{k}" for k in range(8, 0, -1)]
        self.assert_same(steps_of(ifs_within(8, 0)), tuple(inward + ["in"] + outward))
        both = [name for k in range(1, 9) for name in (f"a{k}", f"b{k}")]
        self.assert_same(steps_of(ifs_within(8, 1)), tuple(both + ["in"]))

    def test_sixty_lines(self):
        self.assert_same(steps_of(long_function(60)[2]), tuple(f"s{k}" for k in range(59)))


class FunctionByTest(Case):
    def test_each_function_of_a_program(self):
        for program in (EVERY, many_functions(200), (function("f", "", fail("a")),)):
            for made in program:
                self.assert_same(function_by(program, made[0]), made)


class ValuesOfTest(Case):
    def test_each_line_with_atoms(self):
        program = (
            function("f", "a", let("x", "put", value((1,)), of("a"), value(2)), call("y", "g", value(3), of("x"),
                                                                                  value("four")),
                     when(value(5), block(let("z", "down", value(6)), give(value({"seven": 8}))),
                          block(go("g", value(9), value(10), of("a"))))),
            function("g", "a b c", when(of("a"), block(fail("eleven")), block(give(of("b"))))),
            function("h", "", let("x", "same", value(12), value(12)), give(value(1))),
        )
        self.assert_same(values_of(program), ((1,), 2, 3, "four", 5, 6, {"seven": 8}, 9, 10, 12, 12, 1))

    def test_none(self):
        self.assert_same(values_of((function("f", "a", give(of("a"))),)), ())
        self.assert_same(values_of(many_functions(200)), ())

    def test_eight_deep(self):
        for side, expected in (
                (0, tuple(v for k in range(1, 9) for v in (k, ())) + (9,) + tuple(range(8, 0, -1))),
                (1, tuple(v for k in range(1, 9) for v in (k, (), k)) + (9,))):
            self.assert_same(values_of((("f", (), ifs_within(8, side)),)), expected)

    def test_sixty_lines_and_two_hundred_functions(self):
        self.assert_same(values_of((long_function(60),)), tuple(range(59)))
        program = tuple(function(f"f{k}", "", give(value(k))) for k in range(200))
        self.assert_same(values_of(program), tuple(range(200)))


class UnchangedTest(Case):
    def test_what_is_handed_in_is_not_changed(self):
        for asked in (lines_of, depth_of, aims_of, steps_of):
            self.assert_unchanged(asked, TREE)
            self.assert_unchanged(asked, EVERY[0][2])
        self.assert_unchanged(values_of, EVERY)
        self.assert_unchanged(function_by, EVERY, "else")

    def test_asked_again_the_same_is_told(self):
        blocks = [(TREE,), (EVERY[0][2],), (ifs_within(8, 0),), (block(fail("a")),)]
        for asked in (lines_of, depth_of, aims_of, steps_of):
            self.assert_steady(asked, blocks)
        self.assert_steady(values_of, [(EVERY,), (many_functions(3),), ((long_function(9),),)])
        self.assert_steady(function_by, [(EVERY, "main"), (EVERY, "if"), (many_functions(3), "f2")])
