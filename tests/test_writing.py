"""[9], [10] values and programs as they are written."""

from itertools import permutations

from foreknown.writing import show, show_value
from helping import (Case, EVERY, EVERY_TEXT, WRITTEN, block, call, fail, function, give, go, ifs_within, let, letters,
                     long_function, many_functions, of, value, when)


class ShowValueTest(Case):
    def test_values(self):
        for shown, text in WRITTEN:
            self.assert_same(show_value(shown), text)

    def test_the_order_of_a_record_s_parts_does_not_matter(self):
        for order in permutations(("b", "a", "ab", "c")):
            record = {word: len(word) for word in order}
            self.assertEqual(show_value(record), "{a:1,ab:2,b:1,c:1}")
            self.assertEqual(show_value(({"x": record},)), "[{x:{a:1,ab:2,b:1,c:1}}]")

    def test_sixty_words(self):
        words = letters(59)
        expected = "{" + ",".join(word + ":1" for word in words) + "}"
        self.assertEqual(show_value({word: 1 for word in words}), expected)
        self.assertEqual(show_value({word: 1 for word in words[30:] + words[:30]}), expected)


class ShowTest(Case):
    def test_every_step_and_every_end(self):
        self.assert_same(show(EVERY), EVERY_TEXT)

    def test_short_programs(self):
        for program, text in (
                ((function("f", "", give(value(1))),), "fun f\ngive 1"),
                ((function("f", "a", give(of("a"))),), "fun f a\ngive a"),
                ((function("f", "", fail("low")),), "fun f\nfail low"),
                ((function("f", "", give(value("low"))),), "fun f\ngive 'low"),
                ((function("f", "", go("f")),), "fun f\ngo f"),
                ((function("f", "a b", go("f", of("b"), value((1, 2)))),), "fun f a b\ngo f b [1,2]"),
                ((function("f", "", call("x", "f"), give(of("x"))),), "fun f\nx = call f\ngive x"),
                ((function("f", "", when(value(1), block(fail("a")), block(fail("b")))),),
                 "fun f\nif 1\nfail a\nelse\nfail b\nend"),
                ((function("f", "", fail("a")), function("g", "", fail("b"))), "fun f\nfail a\nfun g\nfail b"),
                ((function("f", "", let("x", "set", value({}), value("a"), value({"c": 1, "b": 2})),
                           give(of("x"))),), "fun f\nx = set {} 'a {b:2,c:1}\ngive x")):
            self.assert_same(show(program), text)

    def test_ifs_eight_deep(self):
        first = [row for k in range(1, 9) for row in (f"a{k} = same {k} []", f"if a{k}")]
        first += ["in = down 9", "give in"]
        first += [row for k in range(8, 0, -1) for row in ("else", f"b{k} = kind {k}", "fail stop", "end")]
        self.assertEqual(show((("f", (), ifs_within(8, 0)),)), "\n".join(["fun f"] + first))
        second = [row for k in range(1, 9)
                  for row in (f"a{k} = same {k} []", f"if a{k}", f"b{k} = kind {k}", "fail stop", "else")]
        second += ["in = down 9", "give in"] + ["end"] * 8
        self.assertEqual(show((("f", (), ifs_within(8, 1)),)), "\n".join(["fun f"] + second))

    def test_sixty_lines_and_two_hundred_functions(self):
        rows = ["fun long a"] + [f"s{k} = add a {k}" for k in range(59)] + ["give a"]
        self.assertEqual(show((long_function(60),)), "\n".join(rows))
        rows = [row for k in range(199) for row in (f"fun f{k} a", f"go f{k + 1} a")] + ["fun f199 a", "give a"]
        self.assertEqual(show(many_functions(200)), "\n".join(rows))


class UnchangedTest(Case):
    def test_what_is_handed_in_is_not_changed(self):
        for shown, _ in WRITTEN:
            self.assert_unchanged(show_value, shown)
        self.assert_unchanged(show, EVERY)

    def test_asked_again_the_same_is_told(self):
        self.assert_steady(show_value, [(shown,) for shown, _ in WRITTEN])
        self.assert_steady(show, [(EVERY,), (many_functions(9),), ((long_function(9),),)])
