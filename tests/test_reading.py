"""[9], [10] values and programs read, and texts that are refused."""

import random

from foreknown.checks import check
from foreknown.errors import ForeError, NoFunction, NoText, Twice, Unbound, WrongCount
from foreknown.reading import read, read_value
from foreknown.shapes import depth_of, lines_of
from foreknown.values import is_value
from foreknown.writing import show, show_value
from helping import (Case, EVERY, EVERY_TEXT, WORDS, WRITTEN, block, call, fail, function, give, go, ifs_within, let,
                     letters, long_function, many_functions, of, outcome, plain, value, when)

SIGNS = " \n'[]{},:-+019azAZ_=.`~!"

TAKES = {"add": 2, "sub": 2, "mul": 2, "div": 2, "rem": 2, "less": 2, "same": 2, "down": 1, "kind": 1, "front": 2,
         "head": 1, "rest": 1, "many": 1, "item": 2, "put": 3, "field": 2, "set": 3}

NO_VALUE_TEXTS = (
    "", " ", "\n", "-", "+", "'", "[", "]", "{", "}", ",", ":", "=", "a", "abc", "a1", "None", "True", "False",
    # numbers
    "00", "01", "-01", "-0", "+0", "+1", "--1", "-+1", "1-", "1.0", "1.", ".1", "1e3", "0x1", "0b1", "1_0", "1,0",
    "000000000000000001", "1000000000000000000", "-1000000000000000000", "9999999999999999999",
    "0999999999999999999", "1" * 19, "1" * 5000, "-" + "9" * 5000, "0" * 5000, "1" * 99999, "1a", "1'a", "-a",
    "1 ", " 1", "1\n", "\n1", "- 1", "1 0",
    # words
    "''", "'abcdefghi", "'" + "a" * 5000, "'A", "'aB", "'a1", "'1", "'a_", "'a-b", "'a'", "'a'b", "'ab'", "' a", "'a ",
    "\"a\"", "'a\n", "'a b",
    # rows
    "[,]", "[1,]", "[,1]", "[1,,2]", "[1 ,2]", "[1, 2]", "[ ]", "[ 1]", "[1 ]", "[1\n]", "[\n1]", "[1,\n2]", "[1",
    "1]", "[1]]", "[[1]", "[1][2]", "[1]1", "[1}", "{1]", "(1)", "()", "[1;2]", "[1 2]", "[01]", "[-0]", "[a]",
    "['a'b]",
    "['A]", "[1,'a,]", "[[]", "[]]", "[][]", "[],[]", "1,2", "['a,'abcdefghi]", "[1000000000000000000]", "[1,2",
    # records
    "{,}", "{a:1,}", "{,a:1}", "{a:1,,b:2}", "{a:1 ,b:2}", "{a:1, b:2}", "{ }", "{ a:1}", "{a :1}", "{a: 1}", "{a:1 }",
    "{a:1", "a:1", "a:1}", "{a:1}}", "{{a:1}", "{a:1]", "[a:1}", "{a}", "{a:}", "{:1}", "{1:1}", "{'a:1}", "{a=1}",
    "{A:1}", "{a1:1}", "{abcdefghi:1}", "{a:1;b:2}", "{a:1b:2}", "{a:1 b:2}", "{b:1,a:2}", "{a:1,c:2,b:3}",
    "{b:1,a:2,c:3}", "{a:1,a:1}", "{a:1,a:2}", "{a:1,b:1,b:1}", "{ab:1,aa:2}", "{ab:1,a:2}", "{b:1,ab:2}", "{a:b}",
    "{a::1}", "{a:1:2}", "{a:01}", "{a:{b:1,a:1}}", "[{b:1,a:1}]", "{a:1\n,b:2}", "{a:1}{b:2}", "{a:[}]", "[1]\n",
    "{\"a\":1}", "{a:1,b}", "{a:1,b:}", "{a:1,:2}", "{[]:1}", "{a,b:1}", "{}{}", "{};", "{}\n", "\n{}",
    # more than sixty parts
    "[" + ",".join(["1"] * 60) + "]", "[" + ",".join(["'a"] * 60) + "]", "[" * 61 + "]" * 61,
    "[" * 60 + "1" + "]" * 60, "{" + ",".join(word + ":1" for word in letters(60)) + "}",
    "{a:" * 60 + "1" + "}" * 60, "{a:" * 60 + "{}" + "}" * 60, "[" + ",".join(["[1]"] * 30) + "]",
    "[" + ",".join(["1"] * 49999) + "]", "[" * 50000 + "]" * 50000, "[" * 100000, "]" * 100000, "{a:" * 33333,
    "{a:" * 20000 + "1" + "}" * 20000,
)


def near_texts(text):
    """The texts with one sign more, fewer, or another one at some place."""
    for place in range(len(text) + 1):
        yield text[:place] + text[place + 1:]
        for sign in SIGNS:
            yield text[:place] + sign + text[place:]
            yield text[:place] + sign + text[place + 1:]


class ReadValueTest(Case):
    def test_values(self):
        for written, text in WRITTEN:
            self.assert_same(read_value(text), written)

    def test_refused(self):
        for text in NO_VALUE_TEXTS:
            self.assert_refused(NoText, {}, read_value, text)

    def test_one_sign_more_fewer_or_another(self):
        """Each such text is refused, or it is what the value told is written as."""
        for _, text in WRITTEN:
            if len(text) <= 40:
                for other in near_texts(text):
                    self.check_one(other)

    def check_one(self, text):
        try:
            told = read_value(text)
        except NoText:
            return
        self.assertIs(is_value(told), True, text)
        self.assertEqual(show_value(told), text)

    def test_all_short_texts_of_some_signs(self):
        """The texts of up to four signs that are values, told one by one."""
        signs = "0-1'a[],"
        found = []
        pending = [""]
        for _ in range(4):
            pending = [text + sign for text in pending for sign in signs]
            for text in pending:
                if outcome(read_value, (text,)).startswith("told"):
                    found.append(text)
        numbers = ["0", "1", "-1", "10", "11", "-10", "-11", "100", "101", "110", "111"]
        numbers += [sign + text for sign in ("1", "-1") for text in
                    (("000 001 010 011 100 101 110 111" if sign == "1" else "00 01 10 11").split())]
        words = ["'a", "'aa", "'aaa"]
        rows = ["[]", "[0]", "[1]", "[-1]", "[10]", "[11]", "['a]", "[[]]"]
        self.assertEqual(sorted(found), sorted(numbers + words + rows))

    def test_blanks_and_line_feeds_at_any_place(self):
        for text in ("10", "-1", "'ab", "[]", "[1,'a]", "{}", "{a:1,b:[]}", "[{a:'b}]"):
            for place in range(len(text) + 1):
                for sign in (" ", "\n", "  "):
                    self.assert_refused(NoText, {}, read_value, text[:place] + sign + text[place:])

    def test_a_comma_more_or_fewer_at_any_place(self):
        text = "[1,'a,[],{a:1,b:[2,3]},-4]"
        for place in range(len(text) + 1):
            self.assert_refused(NoText, {}, read_value, text[:place] + "," + text[place:])
        for place, sign in enumerate(text):
            # Without this comma a number of two figures would stand there.
            if sign == "," and text[place - 1] + text[place + 1] != "23":
                self.assert_refused(NoText, {}, read_value, text[:place] + text[place + 1:])


def program_of(*rows):
    return "\n".join(rows)


def two_functions(*rows):
    """A text in which these rows are the block of the first function."""
    return program_of("fun f a b", *rows, "fun g a", "give a")


class ReadTest(Case):
    def back(self, program):
        self.assert_same(read(show(program)), program)

    def test_every_step_and_every_end(self):
        self.assert_same(read(EVERY_TEXT), EVERY)
        self.back(EVERY)

    def test_short_programs(self):
        self.assert_same(read("fun f\ngive 1"), (("f", (), ((), ("give", ("is", 1)))),))
        self.assert_same(read("fun f a1\ngive a1"), (("f", ("a1",), ((), ("give", ("of", "a1")))),))
        self.assert_same(read("fun f\nfail low"), (("f", (), ((), ("fail", "low"))),))
        self.assert_same(read("fun f\ngo f"), (("f", (), ((), ("go", "f", ()))),))
        self.assert_same(read("fun f a\nx = call f 'a\ny = add x [1]\nif {b:2}\ngive x\nelse\ngo f y\nend"),
                         (("f", ("a",), ((("call", "x", "f", (("is", "a"),)),
                                          ("let", "y", "add", (("of", "x"), ("is", (1,))))),
                                         ("if", ("is", {"b": 2}), ((), ("give", ("of", "x"))),
                                          ((), ("go", "f", (("of", "y"),)))))),))

    def test_the_bounds_themselves(self):
        self.back((long_function(60),))
        self.back(many_functions(200))
        self.back((function("f", "a b c d e g", give(of("g"))),))
        self.back((function("abcdefgh", "a2345678", give(of("a2345678"))),))
        for side in (0, 1):
            for depth in range(9):
                self.back((("f", (), ifs_within(depth, side)),))
        steps = [let(f"s{k}", "add", value(k), value(1)) for k in range(56)]
        self.back((function("f", "", *steps, when(value(1), block(fail("a")), block(let("x", "kind", value(1)),
                                                                                 fail("b")))),))

    def test_names_that_are_words_of_the_writing(self):
        words = ["fun", "give", "go", "fail", "if", "else", "end", "call"] + list(WORDS)
        for word in words:
            self.back((function(word, word, give(of(word))),))
            self.back((function("f", "", let(word, "kind", value(1)), give(of(word))),))
            self.back((function("f", "", call(word, word), when(of(word), block(go(word)), block(give(of(word))))),
                       function(word, "", fail(word if word.isalpha() else "a"))))
            for step in (f"{word} = kind 1", f"{word} = call f"):
                for rows in ((step, "fail a"), ("if 1", step, "fail a", "else", "fail a", "end"),
                             ("if 1", "fail a", "else", step, "fail a", "end")):
                    text = program_of("fun f", *rows)
                    self.assertEqual(show(read(text)), text)

    def test_every_op_with_its_atoms(self):
        for word, count in TAKES.items():
            step = " ".join(["x", "=", word] + ["a"] * count)
            self.assert_same(read(program_of("fun f a", step, "give x")),
                             (function("f", "a", let("x", word, *[of("a")] * count), give(of("x"))),))

    def test_many_made_programs(self):
        chance = random.Random(7)
        for _ in range(150):
            program = made_program(chance)
            check(program)
            self.back(program)


def made_value(chance, room):
    kind = chance.randrange(5) if room > 1 else chance.randrange(2)
    if kind == 0:
        return chance.choice((0, 1, -1, 10 ** 18 - 1, chance.randrange(-10 ** 18 + 1, 10 ** 18)))
    if kind in (1, 2):
        return "".join(chance.choice("abyz") for _ in range(chance.randrange(1, 9)))
    count = chance.randrange(4)
    if kind == 3:
        return tuple(made_value(chance, room // 4) for _ in range(count))
    words = ["".join(chance.choice("abz") for _ in range(chance.randrange(1, 4))) for _ in range(count)]
    return {word: made_value(chance, room // 4) for word in words}


def made_block(chance, bound, fresh, functions, depth):
    bound = list(bound)

    def atom():
        if bound and chance.randrange(2):
            return of(chance.choice(bound))
        return value(made_value(chance, 40))

    steps = []
    for _ in range(chance.randrange(4)):
        if not fresh:
            break
        name = fresh.pop()
        if chance.randrange(2):
            op = chance.choice(WORDS)
            steps.append(let(name, op, *[atom() for _ in range(TAKES[op])]))
        else:
            aimed, count = chance.choice(functions)
            steps.append(call(name, aimed, *[atom() for _ in range(count)]))
        bound.append(name)
    kind = chance.randrange(5)
    if kind > 2 and depth < 3:
        blocks = [made_block(chance, bound, fresh, functions, depth + 1) for _ in range(2)]
        return block(*steps, when(atom(), *blocks))
    if kind == 0:
        return block(*steps, fail(chance.choice(("a", "kind", "else", "abcdefgh"))))
    if kind == 1:
        return block(*steps, give(atom()))
    aimed, count = chance.choice(functions)
    return block(*steps, go(aimed, *[atom() for _ in range(count)]))


def made_program(chance):
    """A sound program, with names that are words of the writing among them."""
    names = ["fun", "give", "go", "fail", "if", "else", "end", "call", "add", "set", "f1", "z9"]
    chance.shuffle(names)
    functions = [(name, chance.randrange(7)) for name in names[:chance.randrange(1, 6)]]
    program = []
    for name, count in functions:
        fresh = names + [f"n{k}" for k in range(40)]
        chance.shuffle(fresh)
        params = tuple(fresh.pop() for _ in range(count))
        program.append((name, params, made_block(chance, params, fresh, functions, 0)))
    return tuple(program)


class NoProgramTest(Case):
    def refused(self, text):
        self.assert_refused(NoText, {}, read, text)

    def test_what_is_no_text(self):
        for thing in (None, 0, 1, -1, (), ("fun f", "give 1"), ["fun f\ngive 1"], {}, EVERY):
            self.refused(thing)

    def test_no_program_at_all(self):
        for text in ("", "\n", " ", "fun", "fun f", "fun f\n", "give 1", "fail a", "go f", "end", "else", "x = kind 1",
                     "1", "'a", "fun f\nx = kind 1", "give 1\nfun f", "a", "\nfun f\ngive 1"):
            self.refused(text)

    def test_line_feeds(self):
        self.refused(EVERY_TEXT + "\n")
        self.refused("\n" + EVERY_TEXT)
        rows = EVERY_TEXT.split("\n")
        for place in range(len(rows) + 1):
            self.refused("\n".join(rows[:place] + [""] + rows[place:]))

    def test_blanks(self):
        rows = EVERY_TEXT.split("\n")
        for k, row in enumerate(rows):
            for wrong in [" " + row, row + " "] + [
                    row[:place] + " " + row[place:] for place in range(len(row)) if row[place] == " "]:
                self.refused("\n".join(rows[:k] + [wrong] + rows[k + 1:]))

    def test_a_row_too_many_or_too_few(self):
        rows = EVERY_TEXT.split("\n")
        for place, row in enumerate(rows):
            if row.split(" ")[1:2] != ["="]:
                self.refused("\n".join(rows[:place] + rows[place + 1:]))
        for place in range(len(rows) + 1):
            for row in ("else", "end", "fun", "give", "go", "fail", "if", "=", "x", "x =", "x = call", "x = add",
                        "give 1 2", "fail a b", "fail 'a", "fail 1", "if 1 2", "else 1", "end 1", "call x f",
                        "let x add"):
                self.refused("\n".join(rows[:place] + [row] + rows[place:]))

    def test_words_too_many_or_too_few(self):
        for row in ("give", "give a b", "give a a", "fail", "fail low low", "fail low a", "go", "if", "if a b", "call",
                    "fun", "a", "= add a b", "x =", "x", "x = call", "x = x = kind a", "x == kind a", "x add a b",
                    "x = = add a b", "= = add a b"):
            last = row.startswith("x") or "=" in row
            rows = (row, "give a") if last else (row,)
            self.refused(two_functions(*rows))
            self.refused(two_functions("if a", *rows, "else", "give a", "end"))
            self.refused(two_functions("if a", "give a", "else", *rows, "end"))
        for row in ("else a", "else else", "", "els", "Else"):
            self.refused(two_functions("if a", "give a", row, "give a", "end"))
        for row in ("end a", "end end", "", "en", "End"):
            self.refused(two_functions("if a", "give a", "else", "give a", row))
        self.refused("fun\ngive 1")
        self.refused("fun f = a\ngive 1")

    def test_ops(self):
        for word, count in TAKES.items():
            for other in range(5):
                row = " ".join(["x", "=", word] + ["a"] * other)
                if other == count:
                    read(two_functions(row, "give x"))
                else:
                    self.refused(two_functions(row, "give x"))
        for word in ("plus", "adds", "ad", "Add", "ADD", "let", "give", "go", "if", "is", "of", "f", "1", "'add",
                     "+", ""):
            for atoms in ("", " a", " a b", " a b a"):
                self.refused(two_functions("x = " + word + atoms, "give x"))
                self.refused(two_functions("if a", "x = " + word + atoms, "give x", "else", "give b", "end"))

    def test_names(self):
        for name in ("", "1", "1a", "A", "aB", "a_b", "a-b", "abcdefghi", "a23456789", "'a", "-1", "=", "a.b", "[]",
                     "~", "_a", "a'", "a,b"):
            self.refused("fun " + name + "\ngive 1")
            self.refused("fun f " + name + "\ngive 1")
            self.refused("fun f a " + name + " b\ngive 1")
            self.refused("fun f\n" + name + " = kind 1\ngive 1")
            self.refused("fun f\n" + name + " = call f\ngive 1")
            self.refused("fun f\nx = call " + name + "\ngive 1")
            self.refused("fun f\nx = call " + name + " 1\ngive 1")
            self.refused("fun f\ngo " + name)
            self.refused("fun f\ngo " + name + " 1")

    def test_atoms(self):
        for atom in ("", "01", "-0", "+1", "A", "1a", "a_b", "abcdefghi", "'", "'A", "'abcdefghi", "[", "]", "[1,]",
                     "{a:1,a:1}", "{b:1,a:1}", "1000000000000000000", "9" * 5000, "[" * 61 + "]" * 61, "=", "1.0",
                     "\"a\"", "[" + ",".join(["1"] * 60) + "]", "(1)"):
            for row in ("x = kind " + atom, "x = add 1 " + atom, "x = add " + atom + " 1", "x = call g " + atom,
                        "x = call f a " + atom):
                self.refused(two_functions(row, "give a"))
            for row in ("give " + atom, "go g " + atom, "go f " + atom + " a", "go f a " + atom):
                self.refused(two_functions(row))
            self.refused(two_functions("if " + atom, "give a", "else", "give b", "end"))

    def test_words_of_a_fail(self):
        for word in ("", "A", "aB", "a1", "1", "'a", "abcdefghi", "a-b", "[]", "a'", "="):
            self.refused("fun f\nfail " + word)
        for word in ("a", "abcdefgh", "fail", "kind", "end"):
            self.assert_same(read("fun f\nfail " + word), (function("f", "", fail(word)),))

    def test_ifs_that_are_not_whole(self):
        for rows in (
                ("if a",), ("if a", "give a"), ("if a", "give a", "else"), ("if a", "give a", "else", "give b"),
                ("if a", "give a", "end"), ("if a", "else", "give b", "end"), ("if a", "give a", "else", "end"),
                ("if a", "else", "end"), ("if a", "end"), ("if a", "give a", "give b", "end"),
                ("if a", "give a", "else", "give b", "else", "give b", "end"),
                ("if a", "give a", "else", "give b", "end", "end"),
                ("if a", "give a", "else", "give b", "end", "give a"),
                ("if a", "give a", "else", "give b", "end", "else"), ("else", "give a", "end"), ("end",),
                ("give a", "end"), ("give a", "else"), ("x = kind a", "if a", "x = kind a", "else", "give b", "end"),
                ("if a", "if b", "give a", "else", "give b", "end"), ("if a", "if b", "give a", "else", "give b",
                                                                     "else", "give a", "end"),
                ("if a", "give a", "x = kind a", "else", "give b", "end")):
            self.refused(two_functions(*rows))
            self.refused(program_of("fun g a", "give a", "fun f a b", *rows))

    def test_a_line_behind_an_end_and_a_block_without_one(self):
        for end in ("give a", "go g a", "fail low"):
            for row in ("give a", "go g a", "fail low", "x = kind a", "x = call g a", "if a", "else", "end"):
                self.refused(two_functions(end, row))
                self.refused(two_functions("if a", end, row, "else", "give a", "end"))
                self.refused(two_functions("if a", "give a", "else", end, row, "end"))
        self.refused(two_functions())
        self.refused(two_functions("x = kind a"))
        self.refused(two_functions("x = kind a", "y = call g x"))

    def test_seven_params(self):
        self.refused("fun f a b c d e g h\ngive 1")
        self.refused(program_of("fun g", "give 1", "fun f a b c d e g h", "give 1"))
        self.refused("fun f a a a a a a a\ngive 1")

    def test_sixty_one_lines(self):
        self.refused(show((long_function(61),)))
        self.refused(show((function("f", "", fail("a")), long_function(61))))
        steps = [let(f"s{k}", "add", value(k), value(1)) for k in range(57)]
        ends = (block(fail("a")), block(let("x", "kind", value(1)), fail("b")))
        self.refused(show((function("f", "", *steps, when(value(1), *ends)),)))
        self.refused(show((function("f", "", when(value(1), block(*steps, fail("a")), ends[1])),)))

    def test_nine_ifs_within_one_another(self):
        for side in (0, 1):
            self.refused(show((("f", (), ifs_within(9, side)),)))
            self.refused(show((("f", (), ifs_within(12, side)),)))
        rows = ["if 1"] * 9 + ["fail a"] + ["else", "fail a", "end"] * 9
        self.refused(program_of("fun f", *rows))
        rows = ["if 1"] * 8 + ["fail a"] + ["else", "fail a", "end"] * 8
        self.assertEqual(depth_of(read(program_of("fun f", *rows))[0][2]), 8)
        self.refused(program_of("fun f", *["if 1"] * 15000))

    def test_two_hundred_and_one_functions(self):
        self.refused(show(many_functions(201)))
        self.refused("\n".join(["fun f\nfail a"] * 201))

    def test_long_texts(self):
        for text in ("a" * 100000, "\n" * 100000, " " * 100000, "fun f\n" + "x = kind 1\n" * 9000 + "give 1",
                     "fun f\ngive " + "[" * 99000, "fun f\ngive " + "1" * 99000, "fun " * 25000, "fun f\n" * 16000,
                     "fun f" + " a" * 40000 + "\ngive 1", "fun f\nfail a\n" * 7000):
            self.refused(text)

    def test_one_sign_more_fewer_or_another(self):
        """Each such text is refused, or it is what the program told is written as."""
        text = program_of("fun f a", "x = add a -10", "y = call f [1,'b]", "if y", "fail low", "else", "go g {a:1} x",
                          "end", "fun g b c", "give b")
        self.assertEqual(show(read(text)), text)
        for other in near_texts(text):
            self.check_one(other)

    def check_one(self, text):
        try:
            told = read(text)
        except ForeError as error:
            self.assertIsInstance(error, (NoText, Twice, Unbound, NoFunction, WrongCount))
            return
        self.assertEqual(show(told), text)
        for made in told:
            self.assertLessEqual(len(lines_of(made[2])), 60)


class TroubleTest(Case):
    def test_the_trouble_of_a_text_that_is_a_writing(self):
        for refusal, place, name, text in (
                (Twice, "f", "f", "fun f\ngive 1\nfun f\ngive 1"), (Twice, "f", "a", "fun f a a\ngive 1"),
                (Twice, "f", "a", "fun f a\na = kind 1\ngive 1"),
                (Twice, "f", "x", "fun f\nif 1\nx = kind 1\ngive x\nelse\nx = kind 1\ngive x\nend"),
                (Unbound, "f", "x", "fun f\ngive x"), (Unbound, "g", "a", "fun f a\ngive a\nfun g\ngive a"),
                (Unbound, "f", "x", "fun f\nx = kind x\ngive 1"), (NoFunction, "f", "g", "fun f\ngo g"),
                (NoFunction, "f", "g", "fun f\nx = call g y\ngive x"), (WrongCount, "f", "f", "fun f\ngo f 1"),
                (WrongCount, "f", "f", "fun f a\nx = call f\ngive x"),
                (WrongCount, "f", "f", "fun f a\ngo f 1 2 3 4 5 6 7 8 9"),
                (WrongCount, "f", "f", "fun f\ngo f" + " 1" * 45000)):
            self.assert_refused(refusal, {"function": place, "name": name}, read, text)

    def test_no_text_also_where_there_is_trouble(self):
        for text in ("fun f a a\ngive 1\n", "fun f\ngive x\nfun f", "fun f\ngo g\nfun h\ngive 01",
                     "fun f\ngive x y", "fun f a b c d e g a\ngive x", "fun f\nx = call g\nx = plus 1 2\ngive y",
                     "fun f\ngo f 1\ngive 1", "fun f\ngive 1\nfun f\ngive 1 ", "fun f\ngo g 1 -0",
                     "\n".join(["fun f\ngive x"] * 201)):
            self.assert_refused(NoText, {}, read, text)
        for beyond in (long_function(61), ("f", (), ifs_within(9, 1))):
            self.assert_refused(NoText, {}, read, "fun g a a\ngo h\n" + show((beyond,)))


class UnchangedTest(Case):
    TEXTS = (EVERY_TEXT, "fun f\ngive 1", "fun f\ngive x", "fun f a\ngo f", "", "fun f\ngive {b:1,a:2}",
             "fun f\ngive {a:1,b:2}", "fun f a a\ngive a", "fun f\ngo g")

    def test_asked_again_the_same_is_told(self):
        self.assert_steady(read_value, [(text,) for _, text in WRITTEN])
        self.assert_steady(lambda text: outcome(read_value, (text,)), [(text,) for text in NO_VALUE_TEXTS[:40]])
        self.assert_steady(lambda text: outcome(read, (text,)), [(text,) for text in self.TEXTS])
        self.assert_steady(read, [(EVERY_TEXT,), ("fun f\ngive {a:1,b:[]}",), ("fun f\ngive {a:2}",)])

    def test_what_was_told_first_stays(self):
        first = read(EVERY_TEXT)
        kept = plain(first)
        for text in self.TEXTS:
            outcome(read, (text,))
        self.assertEqual(plain(first), kept)
