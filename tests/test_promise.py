"""[2], [24] that the made program does as the program does, and stays as it is when made again."""

import itertools

from foreknown.checks import check
from foreknown.errors import Fault, TooMany
from foreknown.maker import make
from foreknown.ops import op_of
from foreknown.paper import counts, paper, steady
from foreknown.partings import best
from foreknown.runner import run
from foreknown.shapes import aims_of, function_by, steps_of
from helping import (BOUND, Case, MACHINE, POWER, SUMS, all_bits, all_params, by_chance, function, give, let,
                     loose_parting, of, of_bits, pairs_of, parting_from, program_of, value)

TOP = BOUND - 1

SHAPED = ((POWER, (4, 3)), (POWER, (0, 3)), (POWER, (-1, 3)), (POWER, (9, 10 ** 3)), (MACHINE, ((), 5)),
          (MACHINE, ((("add", 2), ("mul", 3), ("add", -1)), 5)), (MACHINE, ((("loop", (("add", -1),)), ("add", 9)), 4)),
          (MACHINE, ((("loop", (("loop", (("add", -1),)), ("mul", 0))), ("add", 1), ("mul", "a")), 3)),
          (MACHINE, ((("add", 1), "loop"), 3)), (SUMS, (5, 1)), (SUMS, (0, 7)), (SUMS, (3, "a")), (SUMS, (4, TOP - 9)))


def known_of(parting, inputs):
    return of_bits(parting[0][1], inputs, False)


def later_of(parting, inputs):
    return of_bits(parting[0][1], inputs, True)


def numbered(ran, numbers):
    """The block with each call's and go's place among those of its function."""
    steps = [(step, next(numbers) if step[0] == "call" else None) for step in ran[0]]
    end = ran[1]
    if end[0] == "if":
        return steps, end, (numbered(end[2], numbers), numbered(end[3], numbers))
    return steps, end, next(numbers) if end[0] == "go" else None


class Stop(Exception):
    pass


class Traced:
    """A run that goes along a parting's forms: it counts all steps, and those that
    [24] says are left."""

    def __init__(self, program, parting, budget):
        self.program = program
        self.forms = {form[:2]: form for form in parting}
        self.budget = budget
        self.steps = 0
        self.left = 0

    def step(self):
        if self.steps == self.budget:
            raise Stop()
        self.steps += 1

    def call(self, name, bits, values):
        while True:
            called = function_by(self.program, name)
            form = self.forms[name, bits]
            known = {param for k, param in enumerate(called[1]) if not bits >> k & 1}
            known |= set(steps_of(called[2])) - set(form[2])
            ended, told = self.block(numbered(called[2], itertools.count()), form, known, dict(zip(called[1], values)))
            if ended == "give":
                return told
            name, bits, values = told

    def block(self, ran, form, known, bound):
        def value_by(atom):
            return atom[1] if atom[0] == "is" else bound[atom[1]]
        steps, end, behind = ran
        for (word, name, aim, atoms), number in steps:
            self.step()
            self.left += 1
            values = tuple(value_by(atom) for atom in atoms)
            bound[name] = op_of(aim).answer(values) if word == "let" else self.call(aim, form[3][number], values)
            # It was no fault, so it is taken back where it is ahead.
            self.left -= word == "let" and name in known
        self.step()
        self.left += 1
        if end[0] == "fail":
            raise Fault(end[1])
        if end[0] == "go":
            return "go", (end[1], form[3][behind], tuple(value_by(atom) for atom in end[2]))
        if end[0] == "give":
            return "give", value_by(end[1])
        asked = value_by(end[1])
        if not isinstance(asked, int):
            raise Fault("kind")
        self.left -= end[1][0] == "is" or end[1][1] in known
        return self.block(behind[0 if asked else 1], form, known, bound)

    def run(self, inputs):
        main = self.program[0][0]
        bits = next(iter(self.forms))[1]
        try:
            return ("told", self.call(main, bits, inputs), self.left)
        except Fault as fault:
            return ("fault", fault.word, self.left)
        except Stop:
            return None


class PromiseTest(Case):
    def does_the_same(self, program, parting, inputs, budget=400):
        """Tells whether something was made."""
        known, later = known_of(parting, inputs), later_of(parting, inputs)
        try:
            made, keys = make(program, parting, known, 200)
        except TooMany:
            return False
        self.assertIsNone(check(made))
        self.keys_are_counted(program, parting, known, keys)
        told = Traced(program, parting, budget).run(inputs)
        if told is not None:
            self.assert_same(run(made, later, 100000), told, (program, parting, inputs))
            self.assert_same(run(made, later, told[2]), told)
        short = run(made, later, 60)
        if short[0] != "out":
            told = run(program, inputs, 60 * short[2])
            self.assert_same(told[:2], short[:2], (program, parting, inputs))
        return True

    def keys_are_counted(self, program, parting, known, keys):
        if paper(program, parting)[0] == "ends":
            told = counts(program, parting, known)
            for form, count in zip(parting, told):
                self.assertLessEqual(len([key for key in keys if key[:2] == form[:2]]), count)

    def stays(self, program, bits, held, known):
        """[24] what is made, made again with nothing known, is the same program."""
        try:
            made = make(program, best(program, bits, held), known, 200)[0]
        except TooMany:
            return False
        again = best(made, all_bits(made[0]), all_params(made))
        self.assert_same(make(made, again, (), 200)[0], made, (program, bits, held, known))
        return True

    def partings_of(self, chance, program, bits):
        steps = tuple(pair for pair in pairs_of(program) if chance.likely(15))
        params = tuple(pair for pair in all_params(program) if chance.likely(30))
        yield best(program, bits, ())
        yield best(program, bits, steady(program, bits))
        yield best(program, bits, steps)
        yield best(program, bits, params)
        yield loose_parting(chance, program, bits, 10)
        yield loose_parting(chance, program, bits, 40)

    def test_programs_of_some_shape(self):
        for program, inputs in SHAPED:
            for bits in range(4):
                self.does_the_same(program, best(program, bits, ()), inputs, 2000)
                self.assertTrue(self.does_the_same(program, best(program, bits, steady(program, bits)), inputs, 2000))
                for pair in pairs_of(program):
                    self.does_the_same(program, best(program, bits, (pair,)), inputs, 2000)

    def test_by_chance(self):
        made = 0
        for chance, program in by_chance(300, 7000):
            bits = chance.bits(program[0])
            for parting in self.partings_of(chance, program, bits):
                for _ in range(2):
                    made += self.does_the_same(program, parting, chance.inputs())
        self.assertGreater(made, 3000)

    def test_forms_that_more_is_later_in_each_time(self):
        """The same function in a form for each way to it, all later at last."""
        for chance, program in by_chance(60, 8000):
            bits = chance.bits(program[0])
            parting = parting_from(program, bits, lambda name, step: True, all_bits)
            self.assertTrue(self.does_the_same(program, parting, chance.inputs()))

    def test_where_the_counts_are_within_the_limit_nothing_is_refused(self):
        seen = 0
        for chance, program in by_chance(200, 9000):
            for bits in range(1 << len(program[0][1])):
                parting = best(program, bits, steady(program, bits))
                known = known_of(parting, chance.inputs())
                total = sum(counts(program, parting, known))
                if total <= 200:
                    self.assertLessEqual(len(make(program, parting, known, max(total, 1))[1]), total)
                    seen += 1
        self.assertGreater(seen, 50)

    def test_steps_told_by_hand(self):
        """The if and the down are done, the call, mul, give are left."""
        made = make(POWER, best(POWER, 2, ()), (3,), 200)[0]
        self.assert_same(run(POWER, (3, 5), 100), ("told", 125, 3 * 5 + 2))
        self.assert_same(run(made, (5,), 100), ("told", 125, 3 * 3 + 1))
        # The down that faults is left as a fail, ahead of it the if is gone.
        made = make(POWER, best(POWER, 2, ()), (-1,), 200)[0]
        self.assert_same(run(POWER, (-1, 5), 100), ("fault", "low", 2))
        self.assert_same(run(made, (5,), 100), ("fault", "low", 1))
        # An if on no number is left as a fail.
        made = make(POWER, best(POWER, 2, ()), ("a",), 200)[0]
        self.assert_same(run(POWER, ("a", 5), 100), ("fault", "kind", 1))
        self.assert_same(run(made, (5,), 100), ("fault", "kind", 1))

    def test_without_end(self):
        program = program_of("fun main n x\nm = sub 1 n\ngo main m x")
        made = make(program, best(program, 2, ()), (0,), 2)[0]
        self.assert_same(run(made, (5,), 1000), ("out", None, 1000))

    def test_within_sixty_times_the_steps(self):
        lets = [let(f"s{k}", "add", of("a"), value(k)) for k in range(59)]
        program = (function("main", "a b", *lets, give(of("b"))),)
        made = make(program, best(program, 2, ()), (1,), 1)[0]
        self.assert_same(run(made, (7,), 100), ("told", 7, 1))
        self.assert_same(run(program, (1, 7), 60), ("told", 7, 60))

    def test_what_is_made_stays_as_it_is(self):
        for program, inputs in SHAPED:
            for bits in range(4):
                known = of_bits(bits, inputs, False)
                self.stays(program, bits, (), known)
                self.assertTrue(self.stays(program, bits, steady(program, bits), known))
                for pair in all_params(program):
                    self.stays(program, bits, (pair,), known)
        made = 0
        for chance, program in by_chance(200, 7500):
            bits = chance.bits(program[0])
            params = tuple(pair for pair in all_params(program) if chance.likely(30))
            known = of_bits(bits, chance.inputs(), False)
            for held in ((), params, steady(program, bits), all_params(program)):
                made += self.stays(program, bits, held, known)
        self.assertGreater(made, 500)

    def test_the_code_of_the_machine_is_gone(self):
        code = (("add", 2), ("loop", (("add", -1), ("mul", 1))), ("mul", 3))
        made = make(MACHINE, best(MACHINE, 2, steady(MACHINE, 2)), (code,), 200)[0]
        for one in made:
            self.assertEqual(len(one[1]), 1)
            self.assertEqual({line[2] for line in one[2][0] if line[0] == "let"} - {"add", "mul"}, set())
        self.assertGreater(sum(len(aims_of(one[2])) for one in made), 3)
