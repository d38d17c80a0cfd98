"""[31] the whole, text to text, and [2] over the whole."""

from foreknown.checks import check
from foreknown.errors import NoFunction, NoText, TooMany, Twice, Unbound, WrongCount
from foreknown.maker import make
from foreknown.paper import counts, paper, steady
from foreknown.partings import best
from foreknown.reading import read
from foreknown.runner import run
from foreknown.second import compiled, interpreter
from foreknown.tidier import tidied
from foreknown.work import foreknown
from foreknown.writing import show
from helping import (Case, EVERY, EVERY_TEXT, MACHINE, MIXED, POWER, SOME, SUMS, all_bits, all_params, by_chance, command,
                     can_be_done, function, give, is_put_in_order, let, of, of_bits, outcome, program_of, value)

RING = program_of("""
    fun main n x
    a = rem n 3
    if a
    go one n x
    else
    go two n x
    end
    fun one n x
    b = call two n x
    m = down n
    go main m b
    fun two n x
    if n
    m = down n
    c = call main m x
    d = add c n
    give d
    else
    give x
    end""")

# n is known and never the same twice: it must be held.
UPWARD = program_of("""
    fun main n x
    m = add n 1
    more = less m x
    if more
    go main m x
    else
    give m
    end""")

ENDLESS = program_of("fun main n x\nm = add n 1\ny = call next m x\ngive y\nfun next n x\nm = add n n\ngo main m x")


def given_by(bits, inputs):
    return tuple(None if bits >> k & 1 else one for k, one in enumerate(inputs))


class WorkCase(Case):
    def works(self, source, given, text):
        self.assert_same(foreknown(show(program_of(source)), given), show(program_of(text)), given)

    def does_well(self, program, inputs, bits, budget=300):
        """All that is promised of what comes; tells the text, None where it is refused."""
        given = given_by(bits, inputs)
        try:
            text = foreknown(show(program), given)
        except TooMany as error:
            self.assertEqual(error.limit, 200)
            return None
        self.assertIs(type(text), str)
        left = read(text)
        self.assertIsNone(check(left))
        self.assertEqual(show(left), text)
        self.assert_same(tidied(left), left)
        self.assertEqual(can_be_done(left), [])
        self.assertTrue(is_put_in_order(left))
        self.assertEqual(len(left[0][1]), given.count(None))
        self.tells_as(left, of_bits(bits, inputs, True), program, inputs, budget)
        return text

    def tells_as(self, left, later, program, inputs, budget):
        told = run(program, inputs, budget)
        if told[0] != "out":
            again = run(left, later, told[2])
            self.assert_same(again[:2], told[:2], (program, inputs, later))

    def in_two_goes(self, program, inputs, first, second, budget=300):
        """Of the params in first some later are still later in second."""
        text = self.does_well(program, inputs, first, budget)
        if text is None:
            return False
        later = of_bits(first, inputs, True)
        again = self.does_well(read(text), later, second, budget)
        if again is None:
            return False
        self.tells_as(read(again), of_bits(second, later, True), program, inputs, budget)
        return True


class TextTest(WorkCase):
    def test_power(self):
        text = """
            fun main n x
            if n
            m = down n
            so = call main m x
            all = mul so x
            give all
            else
            give 1
            end"""
        self.works(text, (3, None), """
            fun q0 v0
            v1 = call q1 v0
            v2 = mul v1 v0
            give v2
            fun q1 v0
            v1 = call q2 v0
            v2 = mul v1 v0
            give v2
            fun q2 v0
            v1 = mul 1 v0
            give v1""")
        self.works(text, (0, None), "fun q0 v0\ngive 1")
        self.works(text, (-1, None), "fun q0 v0\nfail low")
        self.works(text, ("a", None), "fun q0 v0\nfail kind")
        self.works(text, (3, 2), "fun q0\ngive 8")
        self.works(text, (None, 2), """
            fun q0 v0
            if v0
            v1 = down v0
            v2 = call q0 v1
            v3 = mul v2 2
            give v3
            else
            give 1
            end""")

    def test_nothing_given(self):
        self.works("fun f a b\nx = add 1 2\ny = add a x\ngive y", (None, None), "fun q0 v0 v1\nv2 = add v0 3\ngive v2")
        # A value that is handed on is known, if none is given.
        self.works("fun f a\nx = call g a 0\nif x\ngo g x 1\nelse\ngive a\nend\nfun g a b\nc = add b 1\nd = mul a c\ngive d",
                   (None,), """
            fun q0 v0
            v1 = call q1 v0
            if v1
            v2 = mul v1 2
            give v2
            else
            give v0
            end
            fun q1 v0
            v1 = mul v0 1
            give v1""")

    def test_it_is_each_part_one_behind_another(self):
        for program, inputs in ((POWER, (4, 3)), (SUMS, (5, 1)), (RING, (5, 2)), (UPWARD, (1, 5)), (ENDLESS, (1, 5)),
                                (MACHINE, ((("add", 2), ("loop", (("add", -1),))), 5))):
            for bits in range(4):
                parting = best(program, bits, steady(program, bits))
                made = make(program, parting, of_bits(bits, inputs, False), 200)[0]
                self.assertEqual(foreknown(show(program), given_by(bits, inputs)), show(tidied(made)))

    def test_values_of_all_kinds(self):
        for one in SOME:
            program = (function("main", "a b", let("x", "front", of("a"), of("b")), give(of("x"))),)
            expected = (function("q0", "v0", let("v1", "front", value(one), of("v0")), give(of("v1"))),)
            self.assertEqual(foreknown(show(program), (one, None)), show(expected))

    def test_no_params(self):
        self.works("fun f\nx = add 1 2\ngive x", (), "fun q0\ngive 3")
        self.works("fun f\nx = call f\ngive x", (), "fun q0\nv0 = call q0\ngive v0")

    def test_the_interpreter_with_a_score(self):
        score = (command("loop", 0, (command("sub", 0, 1), command("add", 2, 1))), command("set", 1, 9))
        self.assertEqual(foreknown(show(interpreter()), (score, None)), show(compiled(score)))


class RefusedTest(WorkCase):
    LOOSE = "fun main n x\nif n\nm = down n\ngo main m x\nelse\ngive x\nend"

    def test_what_does_not_read(self):
        for text in ("", "fun", "fun f\n", "fun f\ngive 1\n", "give 1", "fun f\ngive", 5, None, ("fun f\ngive 1",)):
            for given in ((), (1,), (None, None)):
                self.assert_refused(NoText, {}, foreknown, text, given)

    def test_trouble_in_the_program(self):
        for given in ((), (1,), (None,), (300, None), (None, 1, 2)):
            for text, error, name in (("fun f a\ngive 1\nfun f\ngive 2", Twice, "f"), ("fun f a a\ngive 1", Twice, "a"),
                                      ("fun f a\ngive b", Unbound, "b"), ("fun f a\ngo g a", NoFunction, "g"),
                                      ("fun f a\ngo f", WrongCount, "f"), ("fun f a\nx = call f a a\ngive x", WrongCount, "f"),
                                      ("fun f a\ngo g\nfun g a\ngive a", WrongCount, "g")):
                self.assert_refused(error, {"function": "f", "name": name}, foreknown, text, given)

    def test_another_count_given(self):
        for given in ((), (1,), (None,), (1, 2, 3), (None, None, None), (300,), (300, None, None)):
            self.assert_refused(WrongCount, {"function": "main", "name": "main"}, foreknown, self.LOOSE, given)
        for given in ((1,), (None,), (1, None)):
            self.assert_refused(WrongCount, {"function": "f", "name": "f"}, foreknown, "fun f\ngive 1", given)

    def test_too_many(self):
        for number in (200, 201, 300, 10 ** 18 - 1):
            self.assert_refused(TooMany, {"limit": 200}, foreknown, self.LOOSE, (number, None))
        self.assertEqual(foreknown(self.LOOSE, (199, None)), "fun q0 v0\ngive v0")
        self.assertEqual(foreknown(self.LOOSE, (None, 300)), "fun q0 v0\nif v0\nv1 = down v0\ngo q0 v1\nelse\ngive 300\nend")


class DoesTest(WorkCase):
    def test_programs_of_some_shape(self):
        for program, inputs in ((POWER, (4, 3)), (POWER, (-1, 3)), (SUMS, (5, 1)), (SUMS, (3, "a")), (RING, (7, 2)),
                                (RING, (0, 0)), (RING, ("a", 0)), (UPWARD, (1, 5)), (UPWARD, (9, 5)), (UPWARD, (1, "a")),
                                (ENDLESS, (1, 5)), (ENDLESS, (0, 0)), (MACHINE, ((), 5)), (MIXED, (1, 2)), (MIXED, (-1, 0)),
                                (MACHINE, ((("add", 2), ("loop", (("add", -1), ("mul", 1))), ("mul", 3)), 5))):
            for bits in range(4):
                self.assertIsNotNone(self.does_well(program, inputs, bits, 2000))
                for second in range(1 << bin(bits).count("1")):
                    self.assertTrue(self.in_two_goes(program, inputs, bits, second, 2000))

    def test_counting_up_without_end(self):
        """Nothing new is known ever again, so making ends; the run doesn't."""
        for bits in range(4):
            text = foreknown(show(ENDLESS), given_by(bits, (0, 1)))
            self.assertEqual(run(read(text), of_bits(bits, (0, 1), True), 100)[0], "out")

    def test_none_to_six_params(self):
        for many in range(7):
            names = "abcdef"[:many]
            lets = [let("s0", "front", value(1), value(()))]
            lets += [let(f"s{k + 1}", "front", of(name), of(f"s{k}")) for k, name in enumerate(names)]
            program = (function("main", " ".join(names), *lets, give(of(f"s{many}"))),)
            inputs = SOME[3:3 + many]
            for bits in range(1 << many):
                self.assertIsNotNone(self.does_well(program, inputs, bits))

    def test_every_kind_of_line(self):
        self.assertEqual(show(EVERY), EVERY_TEXT)
        for start in range(len(SOME)):
            inputs = tuple(SOME[(start + 5 * k) % len(SOME)] for k in range(6))
            for bits in (0, 1, 21, 42, 62, 63):
                self.does_well(EVERY, inputs, bits)

    def test_by_chance(self):
        made = 0
        for chance, program in by_chance(250, 40000):
            bits = chance.bits(program[0])
            for _ in range(2):
                made += self.does_well(program, chance.inputs(), bits) is not None
        self.assertGreater(made, 450)

    def test_in_two_goes_by_chance(self):
        made = 0
        for chance, program in by_chance(200, 41000):
            first = chance.bits(program[0])
            second = chance.random.randrange(1 << bin(first).count("1"))
            made += self.in_two_goes(program, chance.inputs(), first, second)
        self.assertGreater(made, 180)


class PromiseTest(WorkCase):
    """[2] with the best parting and its steady pairs held, as the whole makes it."""

    def test_the_two_ways(self):
        seen = 0
        for chance, program in by_chance(250, 42000):
            bits = chance.bits(program[0])
            inputs = chance.inputs()
            parting = best(program, bits, steady(program, bits))
            self.assertEqual(paper(program, parting)[0], "ends")
            known, later = of_bits(bits, inputs, False), of_bits(bits, inputs, True)
            try:
                made, keys = make(program, parting, known, 200)
            except TooMany:
                self.assertGreater(sum(counts(program, parting, known)), 200)
                continue
            self.assertLessEqual(len(keys), sum(counts(program, parting, known)))
            told = run(program, inputs, 300)
            if told[0] != "out":
                self.assert_same(run(made, later, told[2])[:2], told[:2])
                self.assert_same(run(tidied(made), later, told[2])[:2], told[:2])
                seen += 1
            short = run(made, later, 50)
            if short[0] != "out":
                self.assert_same(run(program, inputs, 60 * short[2])[:2], short[:2])
        self.assertGreater(seen, 150)

    def test_made_once_more_with_nothing_known(self):
        for chance, program in by_chance(150, 43000):
            bits = chance.bits(program[0])
            known = of_bits(bits, chance.inputs(), False)
            try:
                made = make(program, best(program, bits, steady(program, bits)), known, 200)[0]
            except TooMany:
                continue
            again = best(made, all_bits(made[0]), all_params(made))
            self.assert_same(make(made, again, (), 200)[0], made)

    def test_the_interpreter_made_once_more(self):
        score = (command("loop", 0, (command("sub", 0, 1), command("when", 2, (command("add", 2, 1),)))),)
        program = interpreter()
        made = make(program, best(program, 2, steady(program, 2)), (score,), 200)[0]
        self.assert_same(make(made, best(made, all_bits(made[0]), all_params(made)), (), 200)[0], made)


class UnchangedTest(Case):
    def test_what_is_handed_in_stays(self):
        asked = [(show(program), given_by(chance.bits(program[0]), chance.inputs()))
                 for chance, program in by_chance(40, 44000)]
        for text, given in asked:
            self.assert_unchanged(foreknown, text, given)
        told = [outcome(foreknown, one) for one in asked]
        self.assertEqual([outcome(foreknown, one) for one in reversed(asked)][::-1], told)
