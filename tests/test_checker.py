"""[15] the first row of a parting that is broken."""

from foreknown.checker import broken
from foreknown.partings import best
from foreknown.shapes import aims_of, function_by, lines_of, steps_of
from helping import (Case, EVERY, MIXED, by_chance, later_in, loose_parting, many_functions, needed, pairs_of,
                     program_of)

# The best parting of MIXED with all bits of the main function.
ALL = (
    ("main", 3, ("x", "y", "z", "w", "v"), (3, 3, 1, 3)),
    ("f", 3, ("r",), ()),
    ("g", 1, ("m",), (1,)),
)


def rows_of(program, parting):
    """All rows that are broken, by the words of [15] once more."""
    rows = []
    forms = {form[:2] for form in parting}
    for form in parting:
        later = later_in(program, form)
        seen = 0
        for line in lines_of(function_by(program, form[0])[2]):
            if line[0] == "let" and needed(line[3], later) and line[1] not in form[2]:
                rows.append(("let",) + form[:2] + (line[1],))
            if line[0] == "call" and line[1] not in form[2]:
                rows.append(("call",) + form[:2] + (line[1],))
            if line[0] in ("call", "go"):
                goal = form[3][seen]
                if needed(line[-1], later) & ~goal:
                    rows.append(("goal",) + form[:2] + (seen,))
                if (line[-2], goal) not in forms:
                    rows.append(("form",) + form[:2] + (seen,))
                seen += 1
    return rows


def without(row, place):
    return row[:place] + row[place + 1:]


def instead(row, place, other):
    return row[:place] + (other,) + row[place + 1:]


def with_later(parting, place, later):
    form = parting[place]
    return instead(parting, place, form[:2] + (later, form[3]))


def with_goal(parting, place, k, goal):
    form = parting[place]
    return instead(parting, place, form[:3] + (instead(form[3], k, goal),))


class CheckerCase(Case):
    def let_by(self, program, parting):
        self.assertIsNone(broken(program, parting), (program, parting))

    def breaks(self, row, program, parting):
        self.assert_same(broken(program, parting), row, (program, parting))


class LetByTest(CheckerCase):
    def test_best_partings(self):
        self.assert_same(best(MIXED, 3, ()), ALL)
        for bits in range(4):
            self.let_by(MIXED, best(MIXED, bits, ()))
            for pair in pairs_of(MIXED):
                self.let_by(MIXED, best(MIXED, bits, (pair,)))
            self.let_by(MIXED, best(MIXED, bits, pairs_of(MIXED)))
        for bits in range(64):
            self.let_by(EVERY, best(EVERY, bits, ()))
        self.let_by(many_functions(200), best(many_functions(200), 1, ()))

    def test_a_later_let_whose_atoms_are_all_ahead(self):
        program = program_of("fun main a\nx = add a 1\ny = kind 5\ngive a")
        for later in ((), ("x",), ("y",), ("x", "y")):
            self.let_by(program, (("main", 0, later, ()),))
        self.let_by(program, (("main", 1, ("x", "y"), ()),))

    def test_a_goal_with_more_bits_than_the_need(self):
        program = program_of("fun main a b\ngo f a b\nfun f a b\ngive a")
        for goal in range(4):
            self.let_by(program, (("main", 0, (), (goal,)), ("f", goal, (), ())))
        for goal in (1, 3):
            self.let_by(program, (("main", 1, (), (goal,)), ("f", goal, (), ())))

    def test_forms_that_none_aims_at_and_forms_in_any_order(self):
        self.let_by(MIXED, (ALL[0], ALL[2], ALL[1]))
        self.let_by(MIXED, ALL + (("f", 0, (), ()), ("g", 0, (), (1,)), ("main", 0, ("x", "y", "z", "w", "v"),
                                                                           (3, 3, 1, 3))))

    def test_by_chance(self):
        for chance, program in by_chance(150, 3000):
            held = tuple(pair for pair in pairs_of(program) if chance.likely(20))
            bits = chance.bits(program[0])
            self.let_by(program, best(program, bits, ()))
            self.let_by(program, best(program, bits, held))
            for more in (0, 10, 50, 100):
                self.let_by(program, loose_parting(chance, program, bits, more))


class RowsTest(CheckerCase):
    def test_let(self):
        program = program_of("fun main a b\nx = add a 1\ny = add 1 b\nz = add x y\ngive z")
        self.breaks(("let", "main", 1, "x"), program, (("main", 1, (), ()),))
        self.breaks(("let", "main", 2, "y"), program, (("main", 2, (), ()),))
        self.breaks(("let", "main", 1, "z"), program, (("main", 1, ("x",), ()),))
        self.breaks(("let", "main", 0, "z"), program, (("main", 0, ("y",), ()),))
        self.breaks(("let", "main", 3, "y"), program, (("main", 3, ("x", "z"), ()),))
        self.breaks(("let", "main", 1, "x"), program, (("main", 1, ("y", "z"), ()),))
        self.breaks(None, program, (("main", 1, ("x", "z"), ()),))

    def test_a_let_behind_a_later_call(self):
        program = program_of("fun main\nx = call f\ny = add 1 x\ngive y\nfun f\ngive 1")
        self.breaks(("let", "main", 0, "y"), program, (("main", 0, ("x",), (0,)), ("f", 0, (), ())))
        self.breaks(None, program, (("main", 0, ("x", "y"), (0,)), ("f", 0, (), ())))

    def test_lets_of_values_that_read_like_later_names(self):
        program = program_of("fun main a\nx = same 'a 'x\ny = kind 'x\ngive 'a")
        self.breaks(None, program, (("main", 1, (), ()),))
        self.breaks(None, program, (("main", 1, ("x",), ()),))

    def test_call(self):
        program = program_of("fun main a\nx = call f a\ny = call f 1\ngive y\nfun f a\ngive a")
        forms = (("f", 0, (), ()), ("f", 1, (), ()))
        self.breaks(("call", "main", 0, "x"), program, (("main", 0, ("y",), (0, 0)),) + forms)
        self.breaks(("call", "main", 0, "y"), program, (("main", 0, ("x",), (0, 0)),) + forms)
        self.breaks(("call", "main", 1, "x"), program, (("main", 1, (), (1, 0)),) + forms)
        self.breaks(None, program, (("main", 1, ("x", "y"), (1, 0)),) + forms)

    def test_goal(self):
        program = program_of("fun main a b\nx = call f a b\ngo f b x\nfun f a b\ngive a")
        forms = tuple(("f", bits, (), ()) for bits in range(4))
        for first in range(4):
            for second in range(4):
                row = None
                if not second & 2:
                    row = ("goal", "main", 1, 1)
                if not first & 1:
                    row = ("goal", "main", 1, 0)
                self.breaks(row, program, (("main", 1, ("x",), (first, second)),) + forms)

    def test_form(self):
        program = program_of("fun main a b\nx = call f a b\ngo main b x\nfun f a b\ngive a")
        first = ("main", 1, ("x",), (1, 2))
        second = ("main", 2, ("x",), (2, 3))
        third = ("main", 3, ("x",), (3, 3))
        fs = tuple(("f", bits, (), ()) for bits in range(4))
        self.breaks(None, program, (first, second, third) + fs)
        self.breaks(("form", "main", 1, 0), program, (first, second, third, fs[2], fs[3]))
        self.breaks(("form", "main", 1, 1), program, (first, third) + fs)
        self.breaks(("form", "main", 2, 0), program, (first, second, third, fs[1], fs[3]))
        self.breaks(("form", "main", 2, 1), program, (first, second) + fs)
        self.breaks(("form", "main", 3, 0), program, (first, second, third) + fs[:3])
        self.breaks(("form", "main", 3, 0), program, (third, first, second) + fs[:2])
        self.breaks(("form", "main", 1, 0), program, (first, second, third))

    def test_the_form_must_have_the_goal_and_the_function_both(self):
        program = program_of("fun main a\ngo f a\nfun f a\ngive a\nfun g a\ngive a")
        self.breaks(("form", "main", 1, 0), program, (("main", 1, (), (1,)), ("g", 1, (), ()), ("f", 0, (), ())))
        self.breaks(("form", "main", 0, 0), program, (("main", 0, (), (0,)), ("g", 0, (), ()), ("f", 1, (), ())))
        self.breaks(("form", "main", 0, 0), program, (("main", 0, (), (1,)), ("g", 1, (), ()), ("f", 0, (), ())))


class FirstRowTest(CheckerCase):
    def test_of_several_forms_the_first_one_in_the_parting_s_order(self):
        self.breaks(("let", "f", 3, "r"), MIXED, (ALL[0], ("f", 3, (), ()), ("g", 1, (), (1,))))
        self.breaks(("let", "g", 1, "m"), MIXED, (ALL[0], ("g", 1, (), (1,)), ("f", 3, (), ())))
        self.breaks(("let", "main", 3, "x"), MIXED, (("main", 3, (), (0, 0, 0, 0)), ("g", 1, (), (1,))))

    def test_of_several_lines_the_first_one(self):
        program = program_of("""
            fun main a
            x = add a 1
            y = call f x
            z = add x 1
            go f z
            fun f a
            give a""")
        f = ("f", 1, (), ())
        self.breaks(("let", "main", 1, "x"), program, (("main", 1, (), (0, 0)), f))
        self.breaks(("call", "main", 1, "y"), program, (("main", 1, ("x",), (0, 0)), f))
        self.breaks(("goal", "main", 1, 0), program, (("main", 1, ("x", "y"), (0, 0)), f))
        self.breaks(("let", "main", 1, "z"), program, (("main", 1, ("x", "y"), (1, 0)), f))
        self.breaks(("goal", "main", 1, 1), program, (("main", 1, ("x", "y", "z"), (1, 0)), f))
        self.breaks(None, program, (("main", 1, ("x", "y", "z"), (1, 1)), f))

    def test_of_one_line_call_then_goal_then_form(self):
        program = program_of("fun main a\nx = call f a\ngive x\nfun f a\ngive a")
        self.breaks(("call", "main", 1, "x"), program, (("main", 1, (), (0,)),))
        self.breaks(("goal", "main", 1, 0), program, (("main", 1, ("x",), (0,)),))
        self.breaks(("form", "main", 1, 0), program, (("main", 1, ("x",), (1,)),))
        self.breaks(("call", "main", 1, "x"), program, (("main", 1, (), (1,)),))
        self.breaks(("call", "main", 1, "x"), program, (("main", 1, (), (0,)), ("f", 0, (), ())))
        program = program_of("fun main a\ngo f a\nfun f a\ngive a")
        self.breaks(("goal", "main", 1, 0), program, (("main", 1, (), (0,)),))
        self.breaks(("form", "main", 1, 0), program, (("main", 1, (), (1,)),))

    def test_calls_and_goes_are_counted_through_both_blocks(self):
        program = program_of("""
            fun main a
            p = call f a
            if a
            q = call f a
            if a
            go f a
            else
            r = call f a
            give r
            end
            else
            if a
            give a
            else
            s = call f a
            t = call f a
            go f a
            end
            end
            fun f a
            give a""")
        names = ("p", "q", "r", "s", "t")
        for k in range(7):
            goals = tuple(0 if j == k else 1 for j in range(7))
            self.breaks(("goal", "main", 1, k), program, (("main", 1, names, goals), ("f", 1, (), ()), ("f", 0, (), ())))
            self.breaks(("form", "main", 0, k), program, (("main", 0, names, goals), ("f", 1, (), ())))


class TakenOutTest(CheckerCase):
    """[16] with nothing held nothing that is later could be ahead."""

    def taken_out(self, program, bits):
        told = best(program, bits, ())
        for place, (name, of_bits, later, goals) in enumerate(told):
            calls = [line[1] for line in lines_of(function_by(program, name)[2]) if line[0] == "call"]
            for k, step in enumerate(later):
                word = "call" if step in calls else "let"
                self.breaks((word, name, of_bits, step), program, with_later(told, place, without(later, k)))
            for k, goal in enumerate(goals):
                for bit in range(goal.bit_length()):
                    if goal >> bit & 1:
                        self.breaks(("goal", name, of_bits, k), program, with_goal(told, place, k, goal - (1 << bit)))

    def test_each_single_name_and_each_single_bit(self):
        for bits in range(4):
            self.taken_out(MIXED, bits)
        for bits in (0, 1, 5, 33, 63):
            self.taken_out(EVERY, bits)

    def test_by_chance(self):
        for chance, program in by_chance(80, 4000):
            self.taken_out(program, chance.bits(program[0]))


class AnyPartingTest(CheckerCase):
    def changed(self, chance, program, parting):
        """One thing of the parting changed, so that it still is one by [14]."""
        place = chance.random.randrange(len(parting))
        form = parting[place]
        body = function_by(program, form[0])[2]
        names, aims = steps_of(body), aims_of(body)
        choice = chance.random.randrange(4)
        if choice == 0 and names:
            name = chance.random.choice(names)
            later = tuple(step for step in names if (step in form[2]) != (step == name))
            return with_later(parting, place, later)
        if choice == 1 and aims:
            k = chance.random.randrange(len(aims))
            return with_goal(parting, place, k, chance.random.randrange(1 << len(aims[k][1])))
        if choice == 2 and place > 0:
            return without(parting, place)
        return parting[:1] + tuple(chance.random.sample(parting[1:], len(parting) - 1))

    def test_by_chance(self):
        words = {}
        for chance, program in by_chance(250, 5000):
            parting = loose_parting(chance, program, chance.bits(program[0]), 10)
            for _ in range(6):
                parting = self.changed(chance, program, parting)
                row = (rows_of(program, parting) + [None])[0]
                self.breaks(row, program, parting)
                words[row and row[0]] = True
        self.assertEqual(set(words), {"let", "call", "goal", "form", None})


class NothingKeptTest(CheckerCase):
    BROKEN = (ALL[0], ("f", 3, (), ()), ALL[2])

    def test_nothing_is_changed(self):
        records = program_of("fun main a\nb = set {a:1,b:2} 'c a\ngo main b")
        self.assert_unchanged(broken, MIXED, ALL)
        self.assert_unchanged(broken, MIXED, self.BROKEN)
        self.assert_unchanged(broken, records, best(records, 1, ()))

    def test_asked_again(self):
        self.assert_steady(broken, [(MIXED, ALL), (MIXED, self.BROKEN), (MIXED, ALL[:2]), (MIXED, ALL[:1]),
                                    (MIXED, best(MIXED, 0, ())), (MIXED, best(MIXED, 1, ())[:3])])
