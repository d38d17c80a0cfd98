"""[19] whether a loop is shown; [20] the counts told ahead; [21] the steady pairs."""

from foreknown.falling import wild
from foreknown.paper import counts, paper, steady
from foreknown.partings import best
from foreknown.shapes import aims_of, function_by, lines_of, values_of
from foreknown.values import weight
from helping import (BOUND, Case, EVERY, POWER, block, by_chance, call, function, give, go, let, loose_parting,
                     many_functions, of, pairs_of, program_of, value, when)

ENDS = ("ends", None, ())

# Counts n up without end, a is handed on as it is.
UPWARD = program_of("fun main n a\nm = add n 1\ngo main m a")
# Loops of which each has something that grows.
STACKED = program_of("""
    fun main code jars
    go loop code jars [] 0
    fun loop code jars stack n
    many = many code
    if many
    rest = rest code
    top = head code
    more = front top stack
    up = add n 1
    go loop rest jars more up
    else
    go out stack jars
    end
    fun out stack jars
    many = many stack
    if many
    rest = rest stack
    go out rest jars
    else
    give jars
    end""")


def calls_by_words(program, parting):
    """The pairs (FORM, FORM) of which the first calls the second, by their
    function and bits, each as often as it aims there."""
    return [(form[:2], (aimed, goal)) for form in parting
            for (aimed, _), goal in zip(aims_of(function_by(program, form[0])[2]), form[3])]


def come_to(start, calls):
    """What can be come to from a form, by one call or more."""
    found = [called for caller, called in calls if caller == start]
    for pair in found:
        found.extend({called for caller, called in calls if caller == pair} - set(found))
    return found


def loop_by_words(program, parting):
    """The first form in a loop with a wild param, and that param; else None."""
    calls = calls_by_words(program, parting)
    for name, bits, param in wild(program, parting):
        if (name, bits) in come_to((name, bits), calls):
            return (name, bits), param
    return None


def counts_by_words(program, parting, known):
    calls = calls_by_words(program, parting)
    spots = wild(program, parting)
    base = sum(weight(one) for one in known) + sum(weight(one) for one in values_of(program))
    told = {}

    def count(pair):
        if pair not in told:
            params = function_by(program, pair[0])[1]
            if any(spot[:2] == pair for spot in spots):
                told[pair] = sum(count(caller) for caller, called in calls if called == pair)
                told[pair] += pair == parting[0][:2]
            else:
                told[pair] = base ** sum(1 for k in range(len(params)) if not pair[1] >> k & 1)
        return told[pair]
    return tuple(count(form[:2]) for form in parting)


class PaperCase(Case):
    def check_paper(self, program, parting):
        """That paper tells what [19] says; told is whether it shows a loop."""
        told = paper(program, parting)
        expected = loop_by_words(program, parting)
        if expected is None:
            self.assert_same(told, ENDS, (program, parting))
            return False
        self.assert_same(told[:2], ("loop", expected[1]), (program, parting))
        self.check_forms(program, parting, told[2], expected[0])
        return True

    def check_forms(self, program, parting, forms, first):
        calls = calls_by_words(program, parting)
        self.assertIsInstance(forms, tuple)
        self.assertTrue(2 <= len(forms) <= len(parting) + 1, forms)
        for pair in forms:
            self.assert_same(pair, tuple(pair))
        self.assert_same((forms[0], forms[-1]), (first, first))
        for pair in zip(forms, forms[1:]):
            self.assertIn(pair, calls)

    def shows(self, param, first, program, parting):
        """That a loop is shown, with this param, from this form on."""
        self.assert_same(paper(program, parting)[:2], ("loop", param))
        self.check_forms(program, parting, paper(program, parting)[2], first)
        self.assertTrue(self.check_paper(program, parting))

    def ends(self, program, parting):
        self.assert_same(paper(program, parting), ENDS)
        self.assertFalse(self.check_paper(program, parting))


class LoopTest(PaperCase):
    def test_no_loop(self):
        self.ends(program_of("fun main\ngive 1"), (("main", 0, (), ()),))
        program = program_of("fun main a\nx = add a 1\ngo f x\nfun f a\nx = add a 1\ngo g x\nfun g a\ngive a")
        for bits in (0, 1):
            self.ends(program, best(program, bits, ()))
        self.ends(many_functions(200), best(many_functions(200), 0, ()))

    def test_a_loop_without_wild_params(self):
        for bits in range(4):
            self.ends(POWER, best(POWER, bits, ()))
        ring = program_of("fun main a b\ngo f b a\nfun f a b\ngo main a b")
        for bits in range(4):
            self.ends(ring, best(ring, bits, ()))

    def test_a_wild_param_of_a_form_in_no_loop(self):
        program = program_of("fun main a\nx = add a 1\ny = call f x\ngo main a\nfun f a\ngive a")
        self.assert_same(wild(program, best(program, 0, ())), (("f", 0, "a"),))
        self.ends(program, best(program, 0, ()))
        # Between two loops is in none.
        program = program_of("""
            fun main a
            if a
            go main a
            else
            x = add a 1
            go mid x
            end
            fun mid b
            go last 1
            fun last a
            go last a""")
        self.assert_same(wild(program, best(program, 0, ())), (("mid", 0, "b"),))
        self.ends(program, best(program, 0, ()))

    def test_a_form_that_calls_itself(self):
        main = ("main", 0)
        self.assert_same(paper(UPWARD, best(UPWARD, 0, ())), ("loop", "n", (main, main)))
        self.assert_same(paper(UPWARD, best(UPWARD, 2, ())), ("loop", "n", (("main", 2), ("main", 2))))
        for bits in (1, 3):
            self.ends(UPWARD, best(UPWARD, bits, ()))
        called = program_of("fun main n\nm = add n 1\nx = call main m\ngive x")
        self.assert_same(paper(called, best(called, 0, ())), ("loop", "n", (main, main)))

    def test_a_form_in_a_loop_of_several(self):
        program = program_of("fun main n\ngo f n\nfun f n\ngo g n\nfun g n\nm = add n 1\ngo main m")
        self.assert_same(paper(program, best(program, 0, ())),
                         ("loop", "n", (("main", 0), ("f", 0), ("g", 0), ("main", 0))))
        program = program_of("fun main n\ngo f n\nfun f n\ngo g n\nfun g n\nm = add n 1\ngo f m")
        self.assert_same(paper(program, best(program, 0, ())), ("loop", "n", (("f", 0), ("g", 0), ("f", 0))))

    def test_a_loop_through_forms_of_one_function(self):
        program = program_of("""
            fun main a b c
            x = call f
            n = add c 1
            if a
            go main x b n
            else
            go main b x n
            end
            fun f
            give 1""")
        parting = best(program, 0, ())
        self.shows("c", ("main", 1), program, parting)
        self.shows("c", ("main", 3), program, best(program, 3, ()))

    def test_the_first_form_and_its_first_wild_param(self):
        program = program_of("""
            fun main a b
            x = add a 1
            y = call f x a
            z = call g a x
            give z
            fun f a b
            c = add b 1
            go f a c
            fun g a b
            c = sub a 1
            d = sub b 1
            go g c d""")
        parting = best(program, 0, ())
        # The param a of f is wild from its first form on, and is handed on as it is.
        self.shows("a", ("f", 0), program, parting)
        self.shows("a", ("g", 0), program, (parting[0], parting[2], parting[1]))
        self.shows("b", ("g", 1), program, best(program, 0, (("g", "a"), ("f", "a"), ("f", "b"))))

    def test_the_first_form_with_a_wild_param_that_is_in_a_loop(self):
        program = program_of("""
            fun main n
            m = add n 1
            x = call once m
            go round m
            fun once n
            go idle n
            fun idle n
            give n
            fun round n
            m = add n 1
            go back m
            fun back n
            go round n""")
        self.shows("n", ("round", 0), program, best(program, 0, ()))

    def test_a_wild_param_behind_others(self):
        program = program_of("fun main a b c d e f\nx = mul f 2\ngo main b c a d e x")
        self.shows("f", ("main", 0), program, best(program, 0, ()))
        self.shows("f", ("main", 1), program, (("main", 1, (), (4,)), ("main", 4, (), (2,)), ("main", 2, (), (1,))))

    def test_a_loop_as_long_as_there_are_forms(self):
        goers = [function(f"f{k}", "a", go(f"f{k + 1}", of("a"))) for k in range(199)]
        program = tuple(goers) + (function("f199", "a", let("b", "add", of("a"), value(1)), go("f0", of("b"))),)
        parting = best(program, 0, ())
        self.shows("a", ("f0", 0), program, parting)
        self.assertEqual(len(paper(program, parting)[2]), 201)

    def test_many_forms_with_wild_params_in_no_loop(self):
        """Functions with a form for nearly each bits, each calling the next ones."""
        turned = ["abcdef"[k:] + "abcdef"[:k] for k in range(6)]
        steps = [let(f"m{k}", "add", of(names[0]), value(1)) for k, names in enumerate(turned)]
        callers = []
        for k in range(60):
            calls = [call(f"c{j}", f"f{k + 1}", of(f"m{j}"), *[of(name) for name in names[1:]])
                     for j, names in enumerate(turned)]
            more = call("more", f"f{k + 1}", of("c0"), *[of(name) for name in "bcdef"])
            callers.append(function(f"f{k}", "a b c d e f", *steps, *calls, more, give(of("a"))))
        last = function("f60", "a b c d e f", give(of("a")))
        program = tuple(callers) + (last,)
        parting = best(program, 1, ())
        self.assertGreater(len(parting), 2000)
        self.assert_same(paper(program, parting), ENDS)
        program = tuple(callers) + (function("f60", "a b c d e f", go("f60", *[of(name) for name in "bcdefa"])),)
        parting = best(program, 1, ())
        told = paper(program, parting)
        self.assert_same(told[:1], ("loop",))
        self.assertEqual({pair[0] for pair in told[2]}, {"f60"})
        self.check_forms(program, parting, told[2], told[2][0])

    def test_a_loop_that_no_form_comes_to(self):
        program = program_of("fun main a\ngive a\nfun f n\nm = add n 1\ngo f m")
        self.ends(program, best(program, 0, ()))
        self.shows("n", ("f", 0), program, best(program, 0, ()) + (("f", 0, (), (0,)),))

    def test_more_later_than_need_be(self):
        self.shows("n", ("main", 2), UPWARD, (("main", 0, (), (2,)), ("main", 2, (), (2,))))
        self.ends(UPWARD, (("main", 0, (), (1,)), ("main", 1, ("m",), (1,))))
        self.ends(UPWARD, (("main", 0, ("m",), (1,)), ("main", 1, ("m",), (3,)), ("main", 3, ("m",), (3,))))

    def test_by_chance(self):
        shown = {True: 0, False: 0}
        for chance, program in by_chance(250, 100):
            bits = chance.bits(program[0])
            held = tuple(pair for pair in pairs_of(program) if chance.likely(10))
            for parting in (best(program, 0, ()), best(program, bits, held), loose_parting(chance, program, 0, 5)):
                shown[self.check_paper(program, parting)] += 1
        self.assertGreater(min(shown.values()), 30)


class CountsTest(PaperCase):
    def counts_are(self, expected, program, parting, known):
        self.assert_same(counts(program, parting, known), expected)
        self.assert_same(counts_by_words(program, parting, known), expected)

    def test_no_known_param(self):
        self.counts_are((1,), POWER, best(POWER, 3, ()), ())
        self.counts_are((1,), program_of("fun main\ngive 500"), (("main", 0, (), ()),), ())
        self.counts_are((1, 1), program_of("fun main\ngo f\nfun f\ngive []"), (("main", 0, (), (0,)), ("f", 0, (), ())),
                        ())

    def test_known_params_that_are_not_wild(self):
        # The value 1 in the program weighs 2.
        self.counts_are((2 + 6,), POWER, best(POWER, 2, ()), (5,))
        self.counts_are((2 + 1,), POWER, best(POWER, 2, ()), (0,))
        self.counts_are((2 + 1,), POWER, best(POWER, 2, ()), (-9,))
        self.counts_are((2 + BOUND,), POWER, best(POWER, 2, ()), (BOUND - 1,))
        self.counts_are(((2 + 6 + 8) ** 2,), POWER, best(POWER, 0, ()), (5, (1, 2)))
        self.counts_are((2 + 8,), POWER, best(POWER, 1, ()), ((1, 2),))
        self.counts_are((2 + 1 + 6,), POWER, best(POWER, 1, ()), ({"a": 5},))

    def test_the_weights_of_all_values_in_the_program_as_often_as_they_stand(self):
        program = program_of("""
            fun main a b c d e f
            g = add 1 1
            h = set {a:3} 'w [2,2]
            if 7
            go main 'a 'a [] [[]] 0 -1
            else
            i = call idle 9
            fail stop
            end
            fun idle a
            give 9
            fun never a
            give [1,1]""")
        base = 2 + 2 + 5 + 1 + 9 + 8 + 1 + 1 + 1 + 3 + 1 + 1 + 10 + 10 + 7
        known = (5, "a", (), {}, ("a",), {"a": ()})
        more = 6 + 1 + 1 + 1 + 3 + 2
        self.counts_are(((base + more) ** 6, base + more), program, best(program, 0, ()), known)
        parting = (("main", 32, ("g", "h", "i"), (0, 1)), ("main", 0, ("i",), (0, 0)), ("idle", 1, (), ()),
                   ("idle", 0, (), ()))
        more -= 2
        self.counts_are(((base + more) ** 5, (base + more) ** 6, 1, base + more), program, parting, known[:5])

    def test_nothing_at_all_to_weigh(self):
        program = program_of("fun main a\ngo main a")
        self.counts_are((1,), program, best(program, 1, ()), ())
        never = (("main", 1, (), (1,)), ("main", 0, (), (0,)))
        self.counts_are((1, 0), program, never, ())

    def test_a_wild_param_and_the_forms_that_aim_at_it(self):
        program = program_of("fun main a\nx = add a 1\ngo f x\nfun f a\ngive a")
        self.counts_are((4 + 2, 4 + 2), program, best(program, 0, ()), (3,))
        program = program_of("""
            fun main a
            x = add a 1
            if x
            go f x
            else
            y = call f a
            go f x
            end
            fun f a
            give a""")
        self.counts_are((6, 18), program, best(program, 0, ()), (3,))

    def test_sums_over_all_that_aim_at_it(self):
        program = program_of("""
            fun main a
            x = mul a a
            y = call f a
            z = call g x a
            w = call h x
            go h 0
            fun f a
            b = many a
            go h b
            fun g a b
            c = call h b
            d = call f b
            go h a
            fun h a
            give a""")
        # W is 4 + 1; g is aimed at once, h twice by main, once by f, twice by g.
        parting = best(program, 0, ())
        self.assert_same([form[0] for form in parting], ["main", "f", "g", "h"])
        self.counts_are((5, 5, 5, 2 * 5 + 5 + 2 * 5), program, parting, (3,))

    def test_one_more_for_the_first_form(self):
        program = program_of("fun main a\ngive a\nfun f a\nx = add a 1\ngo main x")
        parting = (("main", 0, (), ()), ("f", 0, (), (0,)))
        self.assert_same(wild(program, parting), (("main", 0, "a"),))
        self.counts_are((4 + 2 + 1, 4 + 2), program, parting, (3,))
        alone = (("main", 1, (), ()), ("f", 0, (), (0,)), ("main", 0, (), ()))
        self.counts_are((1, 2, 2), program, alone, ())

    def test_a_wild_form_aimed_at_from_a_loop(self):
        program = program_of("""
            fun main n a
            if n
            m = down n
            x = add a n
            y = call out x
            go main m a
            else
            give a
            end
            fun out x
            give x""")
        self.counts_are((49, 49), program, best(program, 0, ()), (3, 2))

    def doubling(self, count):
        """Each function goes on to the next one twice, with something made."""
        goers = []
        for k in range(count - 1):
            after = f"f{k + 1}"
            goers.append(function(f"f{k}", "a", let("x", "add", of("a"), value(1)), when(
                of("a"), block(go(after, of("x"))), block(go(after, of("x"))))))
        return tuple(goers) + (function(f"f{count - 1}", "a", give(of("a"))),)

    def test_rows_of_functions_that_go_on_twice(self):
        program = self.doubling(40)
        base = 39 * 2 + 6
        self.assert_same(counts(program, best(program, 0, ()), (5,)), tuple(base << k for k in range(40)))
        program = self.doubling(200)
        base = 199 * 2 + 6
        told = counts(program, best(program, 0, ()), (5,))
        self.assert_same(told, tuple(base << k for k in range(200)))

    def test_forms_in_another_order_than_they_aim(self):
        program = self.doubling(40)
        parting = best(program, 0, ())
        base = 39 * 2 + 6
        self.assert_same(counts(program, parting[:1] + parting[:0:-1], (5,)),
                         (base,) + tuple(base << k for k in range(39, 0, -1)))

    def test_numbers_of_any_size(self):
        program = program_of("fun main a b c d e f\ngo main a b c d e f")
        known = (BOUND - 1,) * 6
        self.counts_are(((6 * BOUND) ** 6,), program, best(program, 0, ()), known)

    def test_by_chance(self):
        seen = 0
        for chance, program in by_chance(250, 700):
            bits = chance.bits(program[0])
            for parting in (best(program, 0, ()), best(program, bits, ()), loose_parting(chance, program, bits, 20)):
                if paper(program, parting) == ENDS:
                    inputs = chance.inputs()
                    known = tuple(one for k, one in enumerate(inputs) if not parting[0][1] >> k & 1)
                    self.assert_same(counts(program, parting, known), counts_by_words(program, parting, known))
                    seen += any(wild(program, parting))
        self.assertGreater(seen, 50)


class SteadyTest(PaperCase):
    def check_steady(self, program, bits):
        """That pair by pair is held as [21] says."""
        told = steady(program, bits)
        self.assertIsInstance(told, tuple)
        for k in range(len(told)):
            shown = paper(program, best(program, bits, told[:k]))
            self.assertEqual(shown[0], "loop")
            self.assert_same(told[k], (shown[2][0][0], shown[1]))
        self.assert_same(paper(program, best(program, bits, told)), ENDS)
        return told

    def test_no_pair_where_the_best_parting_ends_by_itself(self):
        for bits in range(4):
            self.assert_same(steady(POWER, bits), ())
        for bits in (1, 3):
            self.assert_same(steady(UPWARD, bits), ())
        self.assert_same(steady(program_of("fun main\ngive 1"), 0), ())
        self.assert_same(steady(many_functions(200), 0), ())

    def test_one_pair(self):
        for bits in (0, 2):
            self.assert_same(steady(UPWARD, bits), (("main", "n"),))
        program = program_of("fun main n\ngo f n 0\nfun f n so\nm = down n\nx = add so n\ngo f m x")
        self.assert_same(steady(program, 0), (("f", "so"),))
        self.assert_same(steady(program, 1), ())

    def test_several_pairs_in_the_order_in_which_they_are_held(self):
        for bits, pairs in ((0, (("loop", "stack"), ("loop", "n"))), (1, (("loop", "n"),)),
                            (2, (("loop", "stack"), ("loop", "n"))), (3, (("loop", "n"),))):
            self.assert_same(self.check_steady(STACKED, bits), pairs)
        program = program_of("""
            fun main a b c
            x = call second b a
            y = add c 1
            z = add a 1
            go main z b y
            fun second p q
            r = add q 1
            s = add p 1
            go second s r""")
        # Once a is held the main function's loop is one of a later form.
        self.assert_same(self.check_steady(program, 0), (("main", "a"), ("second", "p"), ("second", "q"), ("main", "c")))
        self.assert_same(self.check_steady(program, 1), (("main", "c"), ("second", "p")))

    def test_a_pair_that_is_shown_in_another_form_once_one_is_held(self):
        program = program_of("fun main a b\nx = add a 1\ny = add b 1\ngo main x y")
        self.shows("b", ("main", 1), program, best(program, 0, (("main", "a"),)))
        self.assert_same(self.check_steady(program, 0), (("main", "a"), ("main", "b")))
        # Here what is made comes to both, but with one held no loop has the other.
        program = program_of("fun main a b\nx = add a b\ngo main b x")
        self.assert_same(self.check_steady(program, 0), (("main", "a"),))

    def test_by_chance(self):
        held = 0
        for _, program in by_chance(150, 1200):
            for bits in range(1 << len(program[0][1])):
                held += len(self.check_steady(program, bits)) > 1
        self.assertGreater(held, 10)

    def test_all_bits(self):
        for bits in range(64):
            self.check_steady(EVERY, bits)


class NothingKeptTest(PaperCase):
    RECORDS = program_of("fun main a\nb = set {a:1,b:2} 'c a\nif a\ngo main b\nelse\ngive a\nend")

    def test_nothing_is_changed(self):
        for program, known in ((POWER, ({"b": 1, "a": 2}, 2)), (STACKED, ((1, 2), {"b": 1, "a": 2}))):
            self.assert_unchanged(paper, program, best(program, 0, ()))
            self.assert_unchanged(steady, program, 0)
            parting = best(program, 0, steady(program, 0))
            self.assert_unchanged(counts, program, parting, known)
        self.assert_unchanged(paper, self.RECORDS, best(self.RECORDS, 0, ()))
        self.assert_unchanged(steady, self.RECORDS, 0)

    def test_asked_again(self):
        programs = (POWER, UPWARD, STACKED)
        self.assert_steady(paper, [(one, best(one, bits, ())) for one in programs for bits in range(4)])
        self.assert_steady(steady, [(one, bits) for one in programs for bits in range(4)])
        self.assert_steady(counts, [(POWER, best(POWER, bits, ()), known) for bits, known in
                                    ((0, (1, 2)), (1, (2,)), (2, (5,)), (3, ()), (2, ((1, 2),)))])

    def test_each_form_s_lines_are_looked_at(self):
        """A loop and what is made may stand in either block of ifs."""
        for first in (True, False):
            loop = block(let("m", "add", of("n"), value(1)), go("main", of("m")))
            stop = block(give(of("n")))
            blocks = (loop, stop) if first else (stop, loop)
            program = (function("main", "n", when(of("n"), stop, block(when(of("n"), *blocks)))),)
            self.assertEqual(len(lines_of(program[0][2])), 6)
            self.shows("n", ("main", 0), program, best(program, 0, ()))
            self.assert_same(steady(program, 0), (("main", "n"),))
