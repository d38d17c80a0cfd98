"""[17] the root of an atom; [18] the params of a parting that are wild."""

from foreknown.falling import root, wild
from foreknown.partings import best
from foreknown.runner import run
from foreknown.shapes import aims_of, function_by, lines_of
from helping import (Case, Chance, EVERY, OP_KINDS, block, by_chance, call, function, give, go, let, loose_parting,
                     of, pairs_of, pieces, program_of, value, when)

FALLING = ("down", "head", "rest", "item", "field")
# For each op as many atoms as it takes, behind a first one.
BEHIND = {word: tuple(value(1) for _ in takes[1:]) for word, takes, _ in OP_KINDS}


def root_by_words(one, atom):
    """The words of [17] once more."""
    if atom[0] == "is":
        return ("is", None)
    if atom[1] in one[1]:
        return ("of", atom[1])
    for line in lines_of(one[2]):
        if line[0] == "let" and line[1] == atom[1] and line[2] in FALLING:
            return root_by_words(one, line[3][0])
    return ("made", atom[1])


def wild_by_words(program, parting):
    """The words of [18] once more: round after round, until no more are found."""
    found = set()
    grown = True
    while grown:
        grown = False
        for name, bits, _, goals in parting:
            one = function_by(program, name)
            for (aimed, atoms), goal in zip(aims_of(one[2]), goals):
                for k, param in enumerate(function_by(program, aimed)[1]):
                    handed = root_by_words(one, atoms[k])
                    is_new = handed[0] == "made" or handed[0] == "of" and (name, bits, handed[1]) in found
                    if is_new and not goal >> k & 1 and (aimed, goal, param) not in found:
                        found.add((aimed, goal, param))
                        grown = True
    return tuple((form[0], form[1], param) for form in parting for param in function_by(program, form[0])[1]
                 if (form[0], form[1], param) in found)


class RootTest(Case):
    def test_of_values(self):
        one = function("f", "a", let("x", "add", of("a"), value(1)), give(of("x")))
        for known in (0, 1, -1, "a", "x", "f", (), ("a",), {}, {"a": "x"}):
            self.assert_same(root(one, value(known)), ("is", None))

    def test_of_each_param(self):
        one = function("f", "a b c d e f", let("x", "add", of("a"), value(1)), give(of("x")))
        for param in "abcdef":
            self.assert_same(root(one, of(param)), ("of", param))

    def test_of_a_let_of_each_op(self):
        for word, behind in BEHIND.items():
            one = function("f", "a b", let("x", word, of("b"), *behind), let("y", word, value("a"), *behind),
                           let("z", word, of("x"), *behind), give(of("x")))
            falls = word in FALLING
            self.assert_same(root(one, of("x")), ("of", "b") if falls else ("made", "x"), word)
            self.assert_same(root(one, of("y")), ("is", None) if falls else ("made", "y"), word)
            self.assert_same(root(one, of("z")), ("of", "b") if falls else ("made", "z"), word)
        self.assertEqual(len(BEHIND), 17)

    def test_only_the_first_atom_counts(self):
        one = function("f", "a b", let("n", "add", of("b"), value(1)), let("x", "item", of("a"), of("n")),
                       let("y", "field", of("a"), of("b")), let("z", "item", of("n"), of("a")),
                       let("v", "item", value(()), of("a")), let("w", "field", of("n"), of("x")), give(of("x")))
        for name, expected in (("x", ("of", "a")), ("y", ("of", "a")), ("z", ("made", "n")), ("v", ("is", None)),
                               ("w", ("made", "n"))):
            self.assert_same(root(one, of(name)), expected)

    def test_over_many_lets(self):
        steps = [let(f"s{k}", FALLING[k % 5], of(f"s{k - 1}"), *BEHIND[FALLING[k % 5]]) for k in range(1, 58)]
        give_last = give(of("s57"))
        from_param = function("f", "s0", *steps, give_last)
        from_value = function("f", "a", let("s0", "head", value(((1,),))), *steps, give_last)
        from_made = function("f", "a", let("s0", "front", of("a"), of("a")), *steps, give_last)
        from_call = function("f", "a", call("s0", "f", of("a")), *steps, give_last)
        for k in range(58):
            self.assert_same(root(from_param, of(f"s{k}")), ("of", "s0"))
            self.assert_same(root(from_value, of(f"s{k}")), ("is", None))
            self.assert_same(root(from_made, of(f"s{k}")), ("made", "s0"))
            self.assert_same(root(from_call, of(f"s{k}")), ("made", "s0"))

    def test_a_made_one_on_the_way(self):
        one = function("f", "a", let("x", "head", of("a")), let("y", "add", of("x"), value(0)), let("z", "down", of("y")),
                       let("w", "down", of("z")), give(of("w")))
        for name, expected in (("x", ("of", "a")), ("y", ("made", "y")), ("z", ("made", "y")), ("w", ("made", "y"))):
            self.assert_same(root(one, of(name)), expected)

    def test_of_a_call(self):
        one = function("f", "a", call("x", "f", of("a")), call("head", "f", of("x")), let("y", "down", of("head")),
                       give(of("x")))
        self.assert_same(root(one, of("x")), ("made", "x"))
        self.assert_same(root(one, of("head")), ("made", "head"))
        self.assert_same(root(one, of("y")), ("made", "head"))

    def test_a_function_called_like_an_op_that_falls(self):
        one = function("down", "a", call("x", "down", of("a")), give(of("x")))
        self.assert_same(root(one, of("x")), ("made", "x"))

    def test_names_in_either_block_of_an_if(self):
        one = function(
            "f", "a b", let("s", "rest", of("b")),
            when(of("a"),
                 block(let("t", "head", of("s")), when(
                     of("t"), block(let("u", "down", of("t")), give(of("u"))),
                     block(let("v", "add", of("t"), of("t")), let("w", "down", of("v")), give(of("w"))))),
                 block(let("x", "down", of("a")), when(
                     of("x"), block(call("y", "f", of("x"), of("s")), give(of("y"))),
                     block(let("z", "item", value((1, 2)), of("x")), give(of("z")))))))
        for name, expected in (("s", ("of", "b")), ("t", ("of", "b")), ("u", ("of", "b")), ("v", ("made", "v")),
                               ("w", ("made", "v")), ("x", ("of", "a")), ("y", ("made", "y")), ("z", ("is", None))):
            self.assert_same(root(one, of(name)), expected)

    def test_names_as_deep_in_ifs_as_may_be(self):
        for side in (0, 1):
            body = block(let("in", "down", of("s8")), give(of("in")))
            for level in range(8, 0, -1):
                beside = block(let(f"b{level}", "rest", of(f"s{level}")), give(of("a")))
                blocks = (body, beside) if side == 0 else (beside, body)
                body = block(let(f"s{level}", "down", of(f"s{level - 1}" if level > 1 else "a")), when(of("a"), *blocks))
            one = ("f", ("a",), body)
            for name in ["in"] + [f"{sign}{level}" for sign in "sb" for level in range(1, 9)]:
                self.assert_same(root(one, of(name)), ("of", "a"))

    def test_a_name_with_the_root_of_a_param_is_a_piece_of_it(self):
        seen = 0
        for seed in range(120):
            chance = Chance(seed)
            kinds = "nrc"
            bound = list(zip("abc", kinds))
            steps = []
            for k in range(12):
                word, takes, tells = chance.op()
                steps.append(let(f"s{k}", word, *[chance.atom_of(kind, bound) for kind in takes]))
                bound.append((f"s{k}", tells))
            inputs = (chance.random.randrange(9), (chance.random.randrange(5), (3, "a"), {"a": 2}), {"a": (1, 2), "b": 4})
            for k in range(12):
                one = function("main", "a b c", *steps[:k + 1], give(of(f"s{k}")))
                told = run((one,), inputs, 100)
                origin = root(one, of(f"s{k}"))
                if told[0] == "told" and origin[0] == "of":
                    self.assertIn(told[1], pieces(inputs["abc".index(origin[1])]))
                    seen += 1
        self.assertGreater(seen, 30)

    def test_by_chance(self):
        for _, program in by_chance(100):
            for one in program + EVERY:
                for name in [name for of_function, name in pairs_of((one,))]:
                    self.assert_same(root(one, of(name)), root_by_words(one, of(name)))


class WildTest(Case):
    def is_wild(self, expected, text, bits, held=()):
        """Expected are texts FUNCTION BITS PARAM; the parting is the best one."""
        program = program_of(text)
        self.parting_is_wild(expected, program, best(program, bits, held))

    def parting_is_wild(self, expected, program, parting):
        spots = [row.split() for row in expected]
        self.assert_same(wild(program, parting), tuple((spot[0], int(spot[1]), spot[2]) for spot in spots))
        self.assert_same(wild(program, parting), wild_by_words(program, parting))

    def test_a_param_that_is_handed_something_made(self):
        self.is_wild(["f 0 a"], "fun main a\nx = add a 1\ngo f x\nfun f a\ngive a", 0)
        self.is_wild(["f 0 b"], "fun main a\nx = add a 1\ngo f a x 1\nfun f a b c\ngive a", 0)
        self.is_wild(["f 0 b"], "fun main a\nx = add a 1\ny = call f a x\ngive y\nfun f a b\ngive a", 0)
        self.is_wild(["f 0 a"], "fun main a\nx = front a []\ny = head x\ngo f y\nfun f a\ngive a", 0)

    def test_a_param_that_is_handed_pieces_and_values(self):
        self.is_wild([], "fun main a b\nx = down a\ny = head b\nz = rest y\nw = item [1] x\ngo f x z w 5\n"
                         "fun f a b c d\ngive a", 0)

    def test_a_param_that_is_handed_to_by_each_op(self):
        for word, behind in BEHIND.items():
            program = (function("main", "a", let("x", word, of("a"), *behind), go("f", of("x"))),
                       function("f", "b", give(of("b"))))
            self.parting_is_wild([] if word in FALLING else ["f 0 b"], program, best(program, 0, ()))

    def test_a_later_param_is_never_wild(self):
        self.is_wild([], "fun main a\nx = add a 1\ngo f x\nfun f a\ngive a", 1)
        self.is_wild([], "fun main a\nx = call f a\ngo f x\nfun f a\ngive a", 0)
        self.is_wild(["f 1 b"], "fun main a\nx = call f 1 1\ny = add a 1\ngo f x y\nfun f a b\ngive a", 0)
        self.is_wild([], "fun main a\nx = add a 1\ngo f x\nfun f a\ngive a", 0, (("f", "a"),))
        self.is_wild([], "fun main a\nx = add a 1\ngo f x\nfun f a\ngive a", 0, (("main", "x"),))

    def test_one_that_is_handed_a_wild_param_over_several_forms(self):
        text = """
            fun main a
            x = add a 1
            go f x a
            fun f p q
            r = down p
            go g q r
            fun g s t
            u = rest t
            v = call h u s
            go h s t
            fun h a b
            give a"""
        self.is_wild(["f 0 p", "g 0 t", "h 0 a", "h 0 b"], text, 0)

    def test_round_a_ring(self):
        text = """
            fun main a b c
            if a
            x = call main b c a
            give x
            else
            y = {op} a
            go main y b c
            end"""
        self.is_wild(["main 0 a", "main 0 b", "main 0 c"], text.format(op="mul 2"), 0)
        self.is_wild([], text.format(op="down"), 0)
        self.is_wild(["main 0 a", "main 0 b"], "fun main a b c\nx = add a 1\ngo main b x c", 0)
        ring = "fun main a\ngo f a\nfun f a\ngo g a\nfun g a\nif a\ngo h a\nelse\ngo f a\nend\nfun h a\n{x}\ngo f x"
        self.is_wild(["f 0 a", "g 0 a", "h 0 a"], ring.format(x="x = kind a"), 0)
        self.is_wild([], ring.format(x="x = head a"), 0)

    def test_one_handed_on_in_a_ring_by_itself_alone(self):
        self.is_wild([], "fun main a\ngo main a", 0)
        self.is_wild([], "fun main a\nx = down a\ngo main x", 0)
        self.is_wild([], "fun main a b\ngo main b a", 0)
        self.is_wild(["main 0 b"], "fun main a b\nx = add a b\ngo main a x", 0)
        self.is_wild([], "fun main a b\ngo f a b\nfun f a b\ngo g b a\nfun g c d\nx = rest c\ngo f x d", 0)

    def test_one_handed_something_made_by_one_of_several(self):
        text = """
            fun main a b
            if a
            x = down a
            go main x b
            else
            if b
            y = down b
            go main y b
            else
            z = sub b 1
            go main a z
            end
            end"""
        self.is_wild(["main 0 a", "main 0 b"], text, 0)
        self.is_wild(["main 0 b"], text.replace("go main y b", "go main a y"), 0)

    def test_the_main_form_s_own_params(self):
        self.is_wild([], "fun main a b\ngive a", 0)
        self.is_wild(["main 0 b"], "fun main a b\nx = many a\ngo main a x", 0)
        # What is held there is later in the goal, so another form is aimed at.
        self.is_wild([], "fun main a b\nx = many a\ngo main a x", 0, (("main", "b"),))
        self.is_wild(["main 2 a"], "fun main a b\nx = many a\ngo main x b", 0, (("main", "b"),))

    def test_forms_of_one_function_apart(self):
        text = """
            fun main a b
            x = add a 1
            y = call f x a
            z = call f a b
            go f y x
            fun f a b
            give a"""
        self.is_wild(["f 0 a", "f 1 b"], text, 2)
        self.is_wild(["f 0 a", "f 1 b"], text, 0)
        self.is_wild([], text, 3)

    def test_forms_in_the_parting_s_order_and_params_in_theirs(self):
        program = program_of("""
            fun main b a
            x = add a b
            y = call g x x x
            z = call f x x
            give 1
            fun f d c
            give 1
            fun g e d f
            give 1""")
        first = best(program, 0, ())
        self.parting_is_wild(["g 0 e", "g 0 d", "g 0 f", "f 0 d", "f 0 c"], program, first)
        self.parting_is_wild(["f 0 d", "f 0 c", "g 0 e", "g 0 d", "g 0 f"], program, (first[0], first[2], first[1]))

    def test_a_form_that_none_aims_at_hands_on_all_the_same(self):
        program = program_of("fun main a\ngo f a\nfun f a\ngive a\nfun g a\nx = add a 1\ngo f x")
        self.parting_is_wild([], program, best(program, 0, ()))
        self.parting_is_wild(["f 0 a"], program, best(program, 0, ()) + (("g", 0, (), (0,)),))
        self.parting_is_wild([], program, best(program, 0, ()) + (("g", 0, ("x",), (1,)), ("f", 1, (), ())))

    def test_more_later_than_need_be(self):
        program = program_of("fun main a b\nx = add a 1\ngo f x b\nfun f a b\ngive a")
        for later, goal, expected in (((), 0, ["f 0 a"]), ((), 1, []), ((), 2, ["f 2 a"]), ((), 3, []),
                                      (("x",), 1, []), (("x",), 3, [])):
            self.parting_is_wild(expected, program, (("main", 0, later, (goal,)), ("f", goal, (), ())))

    def test_long_rings(self):
        """Handed on through 200 functions and round again."""
        goers = [function(f"f{k}", "a b", go(f"f{(k + 1) % 200}", of("b"), of("a"))) for k in range(199)]
        made = function("f199", "a b", let("x", "add", of("a"), of("b")), go("f0", of("x"), of("b")))
        program = tuple(goers) + (made,)
        parting = best(program, 0, ())
        self.assert_same(wild(program, parting), tuple((f"f{k}", 0, param) for k in range(200) for param in "ab"))
        program = tuple(goers) + (function("f199", "a b", go("f0", of("a"), of("b"))),)
        self.assert_same(wild(program, best(program, 0, ())), ())

    def test_by_chance(self):
        for chance, program in by_chance(150, 100):
            bits = chance.bits(program[0])
            held = tuple(pair for pair in pairs_of(program) if chance.likely(15))
            for parting in (best(program, bits, ()), best(program, bits, held), loose_parting(chance, program, bits, 10)):
                self.assert_same(wild(program, parting), wild_by_words(program, parting), (program, parting))


class NothingKeptTest(Case):
    PROGRAM = program_of("fun main a b\nx = set {a:2,b:1} 'c a\ny = field x 'c\ngo main x y")

    def test_nothing_is_changed(self):
        self.assert_unchanged(root, self.PROGRAM[0], of("y"))
        self.assert_unchanged(root, self.PROGRAM[0], value({"b": 1, "a": 2}))
        self.assert_unchanged(wild, self.PROGRAM, best(self.PROGRAM, 0, ()))

    def test_asked_again(self):
        self.assert_steady(root, [(self.PROGRAM[0], of(name)) for name in "abxy"] + [(EVERY[0], of("a"))])
        self.assert_steady(wild, [(self.PROGRAM, best(self.PROGRAM, bits, ())) for bits in range(4)])
