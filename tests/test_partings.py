"""[13] bits and needs; [14], [16] the best parting, with and without held pairs."""

from foreknown.partings import best, held_bits, need
from foreknown.shapes import aims_of, function_by, lines_of, steps_of
from helping import (Case, EVERY, MIXED, by_chance, function, give, go, ifs_within, later_in, long_function,
                     loose_parting, many_functions, needed, of, pairs_of, parting_held, program_of, value)

NOTHING_LATER = (
    ("main", 0, ("y", "z", "v"), (0, 1, 0, 1)),
    ("f", 0, (), ()),
    ("main", 1, ("x", "y", "z", "w", "v"), (1, 1, 1, 3)),
    ("g", 0, (), (0,)),
    ("f", 1, ("r",), ()),
    ("g", 1, ("m",), (1,)),
    ("f", 3, ("r",), ()),
)


class NeedTest(Case):
    def test_bits_of_just_the_atoms_that_are_later_names(self):
        atoms = (of("a"), of("b"), value("a"), of("c"), of("a"))
        for later, bits in (((), 0), (("a",), 0b10001), (("b",), 0b10), (("c",), 0b1000), (("b", "a"), 0b10011),
                            (("a", "b", "c"), 0b11011), (("d",), 0), (("d", "c", "x"), 0b1000), (("a", "a"), 0b10001)):
            self.assert_same(need(atoms, later), bits, later)

    def test_of_no_atoms(self):
        self.assert_same(need((), ()), 0)
        self.assert_same(need((), ("a", "b")), 0)

    def test_values_that_read_like_names(self):
        self.assert_same(need((value("a"), value("b")), ("a", "b")), 0)
        self.assert_same(need((value(("a",)), value({"a": "a"}), value(0), of("a")), ("a",)), 0b1000)

    def test_names_that_hold_one_another_are_others(self):
        self.assert_same(need((of("a"), of("ab"), of("b"), of("abc")), ("ab",)), 0b10)
        self.assert_same(need((of("a"), of("aa"), of("a1")), ("a1", "aa")), 0b110)

    def test_more_than_six_atoms(self):
        names = [f"n{k}" for k in range(40)]
        atoms = tuple(of(name) for name in names)
        self.assert_same(need(atoms, tuple(names)), (1 << 40) - 1)
        self.assert_same(need(atoms, ()), 0)
        for k, name in enumerate(names):
            self.assert_same(need(atoms, (name,)), 1 << k)
        self.assert_same(need((value("a"),) * 39 + (of("a"),), ("a",)), 1 << 39)

    def test_of_each_choice_of_six(self):
        names = tuple("abcdef")
        atoms = tuple(of(name) for name in names)
        for bits in range(64):
            later = tuple(name for k, name in enumerate(names) if bits >> k & 1)
            self.assert_same(need(atoms, later), bits)
            self.assert_same(need(atoms, later[::-1] + ("g",)), bits)


class HeldBitsTest(Case):
    SIX = function("six", "a b c d e f", ("let", "g", "add", (of("a"), of("b"))), give(of("g")))

    def test_bits_of_just_the_params_that_are_held(self):
        for bits in range(64):
            held = tuple(("six", name) for k, name in enumerate("abcdef") if bits >> k & 1)
            self.assert_same(held_bits(self.SIX, held), bits)
            self.assert_same(held_bits(self.SIX, held[::-1] + held), bits)

    def test_pairs_that_do_nothing(self):
        others = (("six", "g"), ("six", "x"), ("five", "a"), ("a", "six"), ("a", "a"), ("six", "six"), ("si", "xa"))
        self.assert_same(held_bits(self.SIX, others), 0)
        self.assert_same(held_bits(self.SIX, others + (("six", "d"),) + others), 0b1000)
        self.assert_same(held_bits(self.SIX, ()), 0)

    def test_no_params(self):
        none = function("none", "", give(value(1)))
        self.assert_same(held_bits(none, ()), 0)
        self.assert_same(held_bits(none, (("none", "a"), ("none", "none"))), 0)

    def test_a_function_of_a_program(self):
        self.assert_same(held_bits(MIXED[2], (("main", "a"), ("f", "q"), ("f", "r"), ("g", "n"))), 0b10)
        self.assert_same(held_bits(MIXED[0], (("main", "a"), ("f", "q"), ("f", "b"))), 0b1)


class BestTest(Case):
    def is_best(self, program, bits, held):
        told = best(program, bits, held)
        self.assert_same(told, parting_held(program, bits, held), (program, bits, held))
        return told

    def test_nothing_held(self):
        self.assert_same(best(MIXED, 0, ()), NOTHING_LATER)

    def test_each_bits_of_the_main_function(self):
        self.assert_same(best(MIXED, 1, ()), (
            ("main", 1, ("x", "y", "z", "w", "v"), (1, 1, 1, 3)),
            ("f", 1, ("r",), ()),
            ("g", 1, ("m",), (1,)),
            ("f", 3, ("r",), ()),
        ))
        self.assert_same(best(MIXED, 2, ()), (
            ("main", 2, ("y", "z", "v"), (2, 3, 0, 1)),
            ("f", 2, ("r",), ()),
            ("main", 3, ("x", "y", "z", "w", "v"), (3, 3, 1, 3)),
            ("g", 0, (), (0,)),
            ("f", 1, ("r",), ()),
            ("f", 3, ("r",), ()),
            ("g", 1, ("m",), (1,)),
        ))
        self.assert_same(best(MIXED, 3, ()), (
            ("main", 3, ("x", "y", "z", "w", "v"), (3, 3, 1, 3)),
            ("f", 3, ("r",), ()),
            ("g", 1, ("m",), (1,)),
        ))

    def test_held_params(self):
        self.assert_same(best(MIXED, 0, (("f", "q"),)), (
            ("main", 0, ("y", "z", "v"), (2, 1, 0, 3)),
            ("f", 2, ("r",), ()),
            ("main", 1, ("x", "y", "z", "w", "v"), (3, 1, 1, 3)),
            ("g", 0, (), (0,)),
            ("f", 3, ("r",), ()),
            ("g", 1, ("m",), (1,)),
        ))

    def test_held_params_of_the_main_function(self):
        self.assert_same(best(MIXED, 0, (("main", "b"),)), (
            ("main", 0, ("y", "z", "v"), (0, 3, 0, 1)),
            ("f", 0, (), ()),
            ("main", 3, ("x", "y", "z", "w", "v"), (3, 3, 1, 3)),
            ("g", 0, (), (0,)),
            ("f", 1, ("r",), ()),
            ("f", 3, ("r",), ()),
            ("g", 1, ("m",), (1,)),
        ))
        program = program_of("fun main a b\ngo main b a")
        for bits in range(4):
            self.assert_same(best(program, bits, (("main", "a"), ("main", "b")))[0][:2], ("main", bits))
            self.assert_same(best(program, bits, (("main", "a"), ("main", "b")))[0][3], (3,))

    def test_held_steps(self):
        self.assert_same(best(MIXED, 0, (("main", "w"), ("g", "m"))), (
            ("main", 0, ("y", "z", "w", "v"), (0, 1, 1, 3)),
            ("f", 0, (), ()),
            ("main", 1, ("x", "y", "z", "w", "v"), (1, 1, 1, 3)),
            ("g", 1, ("m",), (1,)),
            ("f", 3, ("r",), ()),
            ("f", 1, ("r",), ()),
        ))

    def test_held_pairs_that_do_nothing(self):
        nothing = (("main", "y"), ("main", "v"), ("idle", "a"), ("nobody", "a"), ("f", "a"), ("main", "main"),
                   ("f", "x"), ("g", "r"), ("x", "main"))
        self.assert_same(best(MIXED, 0, nothing), NOTHING_LATER)
        for pair in nothing:
            self.assert_same(best(MIXED, 0, (pair,)), NOTHING_LATER)
        self.assert_same(best(MIXED, 0, nothing + (("f", "q"), ("f", "q"))), best(MIXED, 0, (("f", "q"),)))

    def test_goals_and_later_names_of_both_blocks_in_the_lines_order(self):
        program = program_of("""
            fun main a b
            s = call one a
            if b
            t = call two a b
            if a
            u = add a 1
            go one u
            else
            w = call one b
            go two w a
            end
            else
            x = add b a
            y = call two x b
            go main b y
            end
            fun one a
            give a
            fun two a b
            give a""")
        self.assert_same(best(program, 1, ())[0], ("main", 1, ("s", "t", "u", "w", "x", "y"), (1, 1, 1, 0, 3, 1, 2)))
        self.assert_same(best(program, 2, ())[0], ("main", 2, ("s", "t", "w", "x", "y"), (0, 2, 0, 1, 1, 3, 3)))
        self.assert_same(best(program, 0, ())[0], ("main", 0, ("s", "t", "w", "y"), (0, 0, 0, 0, 1, 0, 2)))
        self.assert_same([form[:2] for form in best(program, 1, ())],
                         [("main", 1), ("one", 1), ("two", 1), ("one", 0), ("two", 3), ("main", 2), ("two", 2),
                          ("main", 3)])

    def test_forms_stand_as_goals_first_meet_them(self):
        program = program_of("""
            fun main a
            x = call c a
            y = call b 1
            go c 1
            fun b a
            go d a
            fun c a
            x = call e a
            go b a
            fun d a
            give a
            fun e a
            go d a""")
        self.assert_same([form[:2] for form in best(program, 1, ())],
                         [("main", 1), ("c", 1), ("b", 0), ("c", 0), ("e", 1), ("b", 1), ("d", 0), ("e", 0), ("d", 1)])

    def test_functions_that_no_goal_aims_at_have_no_form(self):
        program = program_of("fun main a\ngive a\nfun f a\ngo main a\nfun g\nx = call f 1\ngive x")
        self.assert_same(best(program, 1, (("f", "a"), ("main", "a"))), (("main", 1, (), ()),))

    def test_values_that_read_like_names_are_ahead(self):
        program = program_of("fun main a\nb = kind 'a\nc = same b 'b\nd = kind a\ngo main 'a")
        self.assert_same(best(program, 1, ()), (("main", 1, ("d",), (0,)), ("main", 0, (), (0,))))

    def test_the_same_names_in_two_functions_are_two(self):
        program = program_of("fun main a b\nx = add b 1\ngo f b a\nfun f b a\nx = add b 1\ngo main b a")
        self.assert_same(best(program, 1, (("f", "x"),)), (("main", 1, (), (2,)), ("f", 2, ("x",), (2,)),
                                                           ("main", 2, ("x",), (1,)), ("f", 1, ("x",), (1,))))

    def test_no_params_and_six(self):
        self.assert_same(best(program_of("fun main\ngive 1"), 0, ()), (("main", 0, (), ()),))
        self.assert_same(best(program_of("fun main\nx = call main\ngo main"), 0, ()),
                         (("main", 0, ("x",), (0, 0)),))
        turning = program_of("fun main a b c d e f\ngo main b c d e f a")
        self.assert_same(best(turning, 1, ()), tuple(("main", 1 << k, (), (1 << (k + 5) % 6,))
                                                     for k in (0, 5, 4, 3, 2, 1)))
        for bits in range(64):
            self.is_best(turning, bits, ())
            self.is_best(EVERY, bits, ())
            self.is_best(EVERY, bits, (("else", "give"), ("main", "n9"), ("main", "f")))

    def test_large_programs(self):
        self.assertEqual(len(self.is_best(many_functions(200), 1, ())), 200)
        self.is_best((long_function(60),), 1, ())
        self.is_best((long_function(60),), 0, (("long", "s7"),))
        for side in (0, 1):
            self.is_best((("main", (), ifs_within(8, side)),), 0, (("main", "a3"), ("main", "b7")))

    def test_a_name_is_later_behind_many_others(self):
        steps = [("let", f"s{k}", "add", (of(f"s{k - 1}"), value(1))) for k in range(1, 59)]
        program = (function("main", "s0", *steps, give(of("s58"))),)
        self.assert_same(best(program, 1, ())[0][2], tuple(f"s{k}" for k in range(1, 59)))
        self.assert_same(best(program, 0, ())[0][2], ())
        self.assert_same(best(program, 0, (("main", "s20"),))[0][2], tuple(f"s{k}" for k in range(20, 59)))

    def test_by_chance(self):
        for chance, program in by_chance(150):
            held = tuple(pair for pair in pairs_of(program) if chance.likely(20))
            for bits in range(1 << len(program[0][1])):
                self.is_best(program, bits, ())
                self.is_best(program, bits, held)

    def test_each_form_is_as_a_parting_s_form_is(self):
        for chance, program in by_chance(80, 500):
            told = best(program, chance.bits(program[0]), ())
            self.assertEqual(len({form[:2] for form in told}), len(told))
            for name, bits, later, goals in told:
                of_form = function_by(program, name)
                self.assertTrue(0 <= bits < 1 << len(of_form[1]))
                self.assertEqual(later, tuple(step for step in steps_of(of_form[2]) if step in later))
                self.assertEqual(len(goals), len(aims_of(of_form[2])))
                for (aimed, atoms), goal in zip(aims_of(of_form[2]), goals):
                    self.assertTrue(0 <= goal < 1 << len(atoms))
                    self.assertIn((aimed, goal), {form[:2] for form in told})


class BesideOthersTest(Case):
    """[16] the best parting, nothing held, beside any other one that is let by."""

    def goes_along(self, program, told, other):
        """Along the same calls and goes, from the first forms on."""
        told_by = {form[:2]: form for form in told}
        other_by = {form[:2]: form for form in other}
        met = [(told[0], other[0])]
        for one, beside in met:
            self.assertLessEqual(later_in(program, one), later_in(program, beside), (program, one, beside))
            aims = aims_of(function_by(program, one[0])[2])
            for (aimed, _), goal, other_goal in zip(aims, one[3], beside[3]):
                pair = (told_by[aimed, goal], other_by[aimed, other_goal])
                if pair not in met:
                    met.append(pair)

    def test_beside_those_with_pairs_held(self):
        for bits in range(4):
            for pair in pairs_of(MIXED):
                self.goes_along(MIXED, best(MIXED, bits, ()), best(MIXED, bits, (pair,)))

    def test_beside_those_with_more_bits_of_the_main_function(self):
        for bits in range(4):
            for more in range(4):
                self.goes_along(MIXED, best(MIXED, bits, ()), best(MIXED, bits | more, ()))

    def test_beside_others_by_chance(self):
        for chance, program in by_chance(120, 1000):
            bits = chance.bits(program[0])
            told = best(program, bits, ())
            for more in (0, 10, 40):
                self.goes_along(program, told, loose_parting(chance, program, bits, more))
                self.goes_along(program, told, loose_parting(chance, program, bits | chance.bits(program[0]), more))

    def test_a_let_is_later_just_where_an_atom_is(self):
        for chance, program in by_chance(80, 2000):
            for form in best(program, chance.bits(program[0]), ()):
                later = later_in(program, form)
                for line in lines_of(function_by(program, form[0])[2]):
                    if line[0] == "let":
                        self.assertEqual(line[1] in form[2], needed(line[3], later) > 0)


class NothingKeptTest(Case):
    def test_nothing_is_changed(self):
        records = (function("main", "a", ("let", "b", "set", (value({"b": 1, "a": 2}), value("c"), of("a"))),
                            go("main", of("b"))),)
        self.assert_unchanged(need, (of("a"), value({"b": 1, "a": 2})), ("b", "a"))
        self.assert_unchanged(held_bits, MIXED[0], (("main", "b"), ("main", "a")))
        self.assert_unchanged(best, MIXED, 1, (("main", "b"), ("f", "q")))
        self.assert_unchanged(best, records, 1, (("main", "b"),))

    def test_asked_again(self):
        held = (("main", "b"), ("f", "q"), ("g", "m"))
        self.assert_steady(best, [(MIXED, bits, pairs) for bits in range(4) for pairs in ((), held, held[:1])])
        self.assert_steady(need, [((of("a"), of("b")), later) for later in ((), ("a",), ("b",), ("a", "b"))])
        self.assert_steady(held_bits, [(MIXED[k], pairs) for k in range(4) for pairs in ((), held)])
