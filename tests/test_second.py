"""[29] the interpreter of the second language, [30] and scores compiled."""

from foreknown.checks import check
from foreknown.errors import NoScore
from foreknown.maker import make
from foreknown.paper import paper, steady
from foreknown.partings import best
from foreknown.reading import read
from foreknown.runner import run
from foreknown.scores import is_score, play
from foreknown.second import compiled, interpreter
from foreknown.shapes import values_of
from foreknown.tidier import tidied
from foreknown.writing import show
from helping import (BOUND, Case, FAULTY, SOME, WRITTEN, can_be_done, command, is_put_in_order, lines_and_outer, nested,
                     parts_in, scores_by_chance)

TOP = BOUND - 1
LOOKING = {"head", "rest", "many", "front", "field", "set", "same", "kind"}

COUNT = (command("loop", 0, (command("sub", 0, 1), command("add", 2, 1))),)
FACTORIAL = (command("set", 1, 1), command("set", 2, 1),
             command("loop", 0, (command("mul", 1, 0), command("sub", 0, 2))))

# As many commands as 60 parts allow: one behind another, within one another,
# alike and unlike, and bodies that are ends of the row itself.
FLAT = tuple(command("add", k % 3, (k + 1) % 3) for k in range(14))
UNLIKE = tuple(command("set", k % 3, k) for k in range(14))
WHENS = nested(14, lambda body: (command("when", 0, body),), ())
LOOPS = nested(13, lambda body: (command("loop", 0, body),), (command("set", 0, 0),))
EMPTY = tuple(command(("when", "loop")[k % 2], k % 2, ()) for k in range(14))
HALVES = tuple(command("when", 1, (command("add", 0, 1),)) for _ in range(7))
TWICE = nested(6, lambda body: (command("when", 0, body), command("sub", 0, 1)), ())
STAIRS = nested(4, lambda body: (command("add", 2, 1), command("loop", 0, body + (command("sub", 0, 1),))), ())
ENDS = (command("when", 1, FLAT[:5]),) + FLAT[:5] + (command("loop", 0, (command("set", 0, 0),)),)
FULL = (FLAT, UNLIKE, WHENS, LOOPS, EMPTY, HALVES, TWICE, STAIRS, ENDS)

JARS = ((0, 1, 0), (1, 1, 0), (5, 1, 0), (-1, 1, 0), (3, 0, 7), (TOP, 1, 2), (-TOP, 1, TOP), (1, 1, TOP))

SHAPED = [((), jars) for jars in ((0,), (5,), (1,) * 20)]
SHAPED += [(COUNT, (number, 1, 0)) for number in (0, 1, 2, 9, 60)]
SHAPED += [(FACTORIAL, (number, 0, 0)) for number in (0, 1, 5, 19, 20)]
SHAPED += [(score, jars) for score in FULL for jars in JARS]
SHAPED += [((command("set", at, 3), command("set", at, 4)), (1,) * many) for many in (1, 2, 20)
           for at in (0, many - 1, many, -1, TOP, -TOP)]
SHAPED += [((command(word, at, other),), (number,) * many) for word in ("add", "sub", "mul") for many in (1, 20)
           for at in (0, many - 1, many, -1) for other in (0, many - 1, many, -1) for number in (2, TOP, -TOP, 10 ** 9)]
SHAPED += [((command(word, at, body),), (number,) * many) for word in ("when", "loop") for many in (1, 20)
           for at in (0, many - 1, many, -1) for body in ((), (command("set", 0, 0),), (command("mul", 0, 0),))
           for number in (0, 1, -1, 7)]


class SecondCase(Case):
    def tells_as_played(self, program, inputs, score, jars, times, budget=120):
        """That the run tells what play tells within times n + times steps, and never within
        fewer steps than the score takes; tells whether something was told."""
        played = play(score, jars, budget)
        told = run(program, inputs, times * budget + times)
        if played[0] != "out":
            self.assert_same(told[:2], played[:2], (score, jars))
            self.assertLessEqual(told[2], times * played[2] + times, (score, jars))
            self.assert_same(run(program, inputs, times * played[2] + times), told)
        if told[0] != "out":
            self.assert_same(play(score, jars, told[2])[:2], told[:2], (score, jars))
        return played[0] != "out"


class InterpreterTest(SecondCase):
    def test_its_shape(self):
        program = interpreter()
        self.assertIsNone(check(program))
        self.assertEqual(len(program[0][1]), 2)
        text = show(program)
        self.assertLessEqual(len(text), 100000)
        self.assert_same(read(text), program)

    def test_making_ends_with_nothing_held(self):
        program = interpreter()
        self.assertEqual(paper(program, best(program, 2, steady(program, 2)))[0], "ends")

    def test_scores_of_some_shape(self):
        program = interpreter()
        for score, jars in SHAPED:
            self.assertTrue(is_score(score))
            self.tells_as_played(program, (score, jars), score, jars, 60)

    def test_long_runs(self):
        score = (command("loop", 0, (command("sub", 0, 1),)),)
        self.assertTrue(self.tells_as_played(interpreter(), (score, (1500, 1)), score, (1500, 1), 60, 3001))

    def test_by_chance(self):
        program = interpreter()
        told = 0
        for chance, score in scores_by_chance(250, 5000):
            jars = chance.jars()
            told += self.tells_as_played(program, (score, jars), score, jars, 60)
        self.assertGreater(told, 150)


class CompiledTest(SecondCase):
    def compiles(self, score):
        """The shape that is promised of what is compiled."""
        program = compiled(score)
        self.assertIsNone(check(program))
        self.assertEqual(len(program[0][1]), 1)
        for name, params, body in program:
            self.assertLessEqual(len(params), 1, score)
            ops = {line[2] for line, _ in lines_and_outer(body) if line[0] == "let"}
            self.assertEqual(ops & LOOKING, set(), score)
        self.assertTrue(all(isinstance(one, int) for one in values_of(program)), score)
        self.assert_same(tidied(program), program)
        self.assertEqual(can_be_done(program), [])
        self.assertTrue(is_put_in_order(program))
        return program

    def test_it_is_the_interpreter_made_and_tidied(self):
        program = interpreter()
        parting = best(program, 2, steady(program, 2))
        for score in FULL + (COUNT, FACTORIAL, ()):
            self.assert_same(compiled(score), tidied(make(program, parting, (score,), 200)[0]))

    def test_no_command(self):
        self.assert_same(show(self.compiles(())), "fun q0 v0\ngive v0")

    def test_each_command(self):
        for word in ("add", "sub", "mul"):
            self.assert_same(show(self.compiles((command(word, 3, 4),))),
                             f"fun q0 v0\nv1 = item v0 3\nv2 = item v0 4\nv3 = {word} v1 v2\nv4 = put v0 3 v3\ngive v4")
        self.assert_same(show(self.compiles((command("set", 3, -4),))), "fun q0 v0\nv1 = put v0 3 -4\ngive v1")
        for word in ("when", "loop"):
            program = self.compiles((command(word, 3, (command("set", 3, 0),)),))
            self.assertIn("v1 = item v0 3\nif v1\n", show(program))

    def test_scores_of_as_many_parts_as_may_be(self):
        for score in FULL:
            self.assertTrue(is_score(score))
            self.assertGreaterEqual(parts_in(score), 49)
            self.compiles(score)

    def test_scores_of_some_shape(self):
        made = {}
        for score, jars in SHAPED:
            shown = repr(score)
            if shown not in made:
                made[shown] = self.compiles(score)
            self.tells_as_played(made[shown], (jars,), score, jars, 10)

    def test_each_budget_by_hand(self):
        program = self.compiles(COUNT)
        for number in range(30):
            jars = (number, 1, 0)
            self.assertTrue(self.tells_as_played(program, (jars,), COUNT, jars, 10))
            steps = run(program, (jars,), 1000)[2]
            self.assertGreaterEqual(steps, play(COUNT, jars, 1000)[2])
            self.assert_same(run(program, (jars,), steps - 1), ("out", None, steps - 1))

    def test_long_runs(self):
        for score, jars in ((COUNT, (3000, 1, 0)), (LOOPS, (1,)), ((command("loop", 0, (command("sub", 0, 1),)),), (4000, 1))):
            self.assertTrue(self.tells_as_played(compiled(score), (jars,), score, jars, 10, 9001))

    def test_the_order_of_the_parts_does_nothing(self):
        turned = tuple({word: one[word] for word in reversed(list(one))} for one in FLAT)
        self.assert_same(compiled(turned), compiled(FLAT))

    def test_by_chance(self):
        told = 0
        for chance, score in scores_by_chance(250, 6000):
            program = self.compiles(score)
            for _ in range(3):
                jars = chance.jars()
                told += self.tells_as_played(program, (jars,), score, jars, 10)
        self.assertGreater(told, 500)


class NoScoreTest(Case):
    def test_what_is_no_score(self):
        for thing in (0, "set", {}, FLAT[0], (0,), ("a",), ((),), ({},), ({"do": "set"},), ({**FLAT[0], "do": "div"},),
                      ({**FLAT[0], "do": {}},), ({**FLAT[0], "at": "a"},), ({**FLAT[0], "n": 1},),
                      (command("when", 0, 0),), (command("loop", 0, FLAT[0]),), FLAT[:5] + (1,)):
            self.assert_refused(NoScore, {}, compiled, thing)
            for word in ("when", "loop"):
                for depth in (1, 2, 8):
                    body = nested(depth, lambda body: (command("add", 0, 0), command(word, 0, body)), thing)
                    if parts_in(body) <= 60:
                        self.assert_refused(NoScore, {}, compiled, body)
        for thing in SOME + tuple(value for value, _ in WRITTEN) + tuple(one for _, values, _ in FAULTY for one in values):
            if thing != ():
                self.assert_refused(NoScore, {}, compiled, thing)


class UnchangedTest(Case):
    def test_what_is_handed_in_stays(self):
        scores = [score for _, score in scores_by_chance(25, 7000)]
        for score in scores + [(FLAT[0], 5)]:
            self.assert_unchanged(compiled, score)
        self.assert_steady(compiled, [(score,) for score in scores])
        self.assert_steady(interpreter, [(), ()])
