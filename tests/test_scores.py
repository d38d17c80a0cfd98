"""[27] what a score is, [28] how it is played."""

import itertools

from foreknown.scores import is_score, play
from helping import (BOUND, Case, FAULTY, SOME, WRITTEN, command, nested, parts_in, plain, scores_by_chance)

TOP = BOUND - 1

ONES = (command("set", 0, 5), command("add", 1, 0), command("sub", 0, 1), command("mul", 2, 2),
        command("when", 0, ()), command("loop", 3, ()))


def in_all_orders(record):
    for words in itertools.permutations(record):
        yield {word: record[word] for word in words}


def deep(inmost, word="when"):
    """A score with as many bodies within one another as the parts allow, this one inmost."""
    return nested(13, lambda body: (command(word, 0, body),), inmost)


class IsScoreTest(Case):
    def told(self, thing, expected):
        self.assert_same(is_score(thing), expected, thing)

    def test_no_command_at_all(self):
        self.told((), True)

    def test_each_command_with_its_parts_in_every_order(self):
        for one in ONES:
            for turned in in_all_orders(one):
                self.told((turned,), True)
                self.told((command("loop", 0, (turned, turned)), turned), True)

    def test_numbers_of_any_size(self):
        for number in (0, -1, 21, TOP, -TOP):
            self.told((command("set", number, 1), command("set", 1, number), command("add", number, 1),
                       command("mul", 1, number), command("when", number, ()), command("loop", number, ())), True)

    def test_bodies_within_bodies(self):
        self.told(tuple(command(word, 0, ONES) for word in ("when", "loop")), True)
        for word in ("when", "loop"):
            self.told(deep((), word), True)
            self.told(deep((command("set", 0, 1),), word), True)
        self.told(tuple(command("set", k, k) for k in range(14)), True)
        self.told(ONES + ONES, True)

    def wrong(self, thing):
        """Not a command, whether alone, among others, or at any depth."""
        for row in ((thing,), ONES + (thing,), (thing,) + ONES, (ONES[0], thing, ONES[1]),
                    (command("when", 0, (thing,)),), (ONES[0], command("loop", 0, (ONES[1], thing)))):
            self.told(row, False)
        for word in ("when", "loop"):
            self.told(nested(9, lambda body: (command(word, 0, body),), (thing,)), False)

    def test_a_part_lacks(self):
        for one in ONES:
            for word in one:
                self.wrong({other: one[other] for other in one if other != word})
        self.wrong({})
        self.wrong({"do": "set"})

    def test_a_part_too_many(self):
        for one in ONES:
            for word, more in (("n", 1), ("from", 1), ("body", ()), ("to", 1), ("a", "do")):
                if word not in one:
                    self.wrong({**one, word: more})

    def test_a_part_with_another_word(self):
        for one in ONES:
            for word in one:
                for other in ("n", "from", "body", "at", "do", "x"):
                    if other not in one:
                        self.wrong({(other if key == word else key): part for key, part in one.items()})

    def test_do_is_no_command_s_word(self):
        for do in ("div", "put", "row", "a", "setter", "addadd", "do", "body", 0, 5, (), ("set",), {}, {"set": 1},
                   ({"a": 1},), {"do": {}}):
            for one in ONES:
                self.wrong({**one, "do": do})

    def test_another_command_s_word(self):
        for one in ONES:
            for other in ONES:
                if set(one) != set(other):
                    self.wrong({**one, "do": other["do"]})

    def test_no_number(self):
        for one in ONES:
            for word in ("at", "n", "from"):
                if word in one:
                    for thing in ("a", "set", (), (1,), {}, {"n": 1}):
                        self.wrong({**one, word: thing})

    def test_a_body_that_is_no_score(self):
        for word in ("when", "loop"):
            for body in (0, "a", {}, ONES[0], (1,), ((),), ("set",), ({},), (ONES[0], 0), ((ONES[0],),)):
                self.wrong(command(word, 0, body))

    def test_no_row_of_commands(self):
        for one in ONES:
            self.told(one, False)
        for thing in (0, 1, -5, "set", "a", {}, {"do": ()}, (0,), ("a",), ((),), (ONES,), (ONES[0], ())):
            self.told(thing, False)
        for thing in SOME + tuple(value for value, _ in WRITTEN):
            self.told(thing, thing == ())
        for _, values, _ in FAULTY:
            for thing in values:
                self.told(thing, thing == ())

    def test_more_than_sixty_parts_are_no_value(self):
        self.told(tuple(command("set", 0, k) for k in range(14)), True)
        self.told(tuple(command("set", 0, k) for k in range(15)), False)

    def test_by_chance(self):
        for _, score in scores_by_chance(100, 0):
            self.assertLessEqual(parts_in(score), 60)
            self.told(score, True)


class Stop(Exception):
    pass


class Told:
    """The words of [28] once more."""

    def __init__(self, jars, budget):
        self.jars = dict(enumerate(jars))
        self.budget = budget
        self.steps = 0

    def step(self, *numbers):
        if self.steps == self.budget:
            raise Stop("out", None, self.budget)
        self.steps += 1
        if any(number not in self.jars for number in numbers):
            raise Stop("fault", "place", self.steps)

    def put(self, at, number):
        if abs(number) >= BOUND:
            raise Stop("fault", "wide", self.steps)
        self.jars[at] = number

    def play(self, score):
        for one in score:
            do, at = one["do"], one["at"]
            if do == "set":
                self.step(at)
                self.put(at, one["n"])
            elif do == "when":
                self.step(at)
                if self.jars[at]:
                    self.play(one["body"])
            elif do == "loop":
                self.step(at)
                while self.jars[at]:
                    self.play(one["body"])
                    self.step(at)
            else:
                self.step(at, one["from"])
                here, there = self.jars[at], self.jars[one["from"]]
                self.put(at, {"add": here + there, "sub": here - there, "mul": here * there}[do])


def told_once_more(score, jars, budget):
    told = Told(jars, budget)
    try:
        told.play(score)
    except Stop as stop:
        return stop.args
    return ("told", tuple(told.jars.values()), told.steps)


class PlayCase(Case):
    def plays(self, score, jars, expected):
        """That this is told, and at each smaller budget out."""
        self.assertTrue(is_score(score), score)
        self.assert_same(play(score, jars, 100000), expected, (score, jars))
        self.assert_same(play(score, jars, expected[2]), expected)
        for budget in range(min(expected[2], 50)):
            self.assert_same(play(score, jars, budget), ("out", None, budget))


class PlayTest(PlayCase):
    def test_no_command(self):
        for budget in (0, 1, 5):
            self.assert_same(play((), (1, 2), budget), ("told", (1, 2), 0))
        self.plays((), (7,), ("told", (7,), 0))

    def test_each_command(self):
        self.plays((command("set", 1, -9),), (4, 5, 6), ("told", (4, -9, 6), 1))
        self.plays((command("add", 1, 2),), (4, 5, 6), ("told", (4, 11, 6), 1))
        self.plays((command("sub", 1, 2),), (4, 5, 6), ("told", (4, -1, 6), 1))
        self.plays((command("mul", 1, 2),), (4, 5, 6), ("told", (4, 30, 6), 1))
        self.plays((command("when", 1, (command("set", 0, 1),)),), (4, 5, 6), ("told", (1, 5, 6), 2))
        self.plays((command("loop", 1, (command("set", 1, 0),)),), (4, 5, 6), ("told", (4, 0, 6), 3))

    def test_the_parts_in_every_order(self):
        for one in ONES[:4]:
            told = play((one,), (4, 5, 6, 0), 10)
            for turned in in_all_orders(one):
                self.plays((turned,), (4, 5, 6, 0), told)

    def test_a_jar_with_itself(self):
        self.plays((command("add", 0, 0),), (7,), ("told", (14,), 1))
        self.plays((command("sub", 0, 0),), (7,), ("told", (0,), 1))
        self.plays((command("mul", 0, 0),), (-7,), ("told", (49,), 1))

    def test_first_and_last_of_one_to_twenty_jars(self):
        for many in range(1, 21):
            jars = tuple(range(2, many + 2))
            for at in (0, many - 1):
                put = dict(enumerate(jars))
                for word, number in (("set", 50), ("add", 2 * jars[at]), ("sub", 0), ("mul", jars[at] ** 2)):
                    expected = tuple({**put, at: number}.values())
                    self.plays((command(word, at, 50 if word == "set" else at),), jars, ("told", expected, 1))
                self.plays((command("when", at, (command("set", at, 0),)),), jars,
                           ("told", tuple({**put, at: 0}.values()), 2))
                self.plays((command("loop", at, (command("set", at, 0),)),), jars,
                           ("told", tuple({**put, at: 0}.values()), 3))
            for at in (-1, -many, many, many + 1, TOP, -TOP):
                for word in ("set", "when", "loop"):
                    self.plays((command(word, at, 1 if word == "set" else ()),), jars, ("fault", "place", 1))
                for word in ("add", "sub", "mul"):
                    self.plays((command(word, at, 0),), jars, ("fault", "place", 1))
                    self.plays((command(word, 0, at),), jars, ("fault", "place", 1))
                    self.plays((command(word, at, at),), jars, ("fault", "place", 1))

    def test_wide(self):
        for word, jars, number in (("add", (TOP, 1), None), ("add", (TOP - 1, 1), TOP), ("add", (-TOP, -1), None),
                                   ("add", (1 - TOP, -1), -TOP), ("sub", (TOP, -1), None), ("sub", (TOP - 1, -1), TOP),
                                   ("sub", (-TOP, 1), None), ("sub", (1 - TOP, 1), -TOP), ("mul", (10 ** 9, 10 ** 9), None),
                                   ("mul", (10 ** 9, -10 ** 9), None), ("mul", (10 ** 9 - 1, 10 ** 9 + 1), TOP),
                                   ("mul", (10 ** 9 - 1, -10 ** 9 - 1), -TOP), ("mul", (TOP, TOP), None),
                                   ("mul", (TOP, 1), TOP), ("mul", (TOP, -1), -TOP), ("add", (TOP, -TOP), 0)):
            expected = ("fault", "wide", 1) if number is None else ("told", (number, jars[1]), 1)
            self.plays((command(word, 0, 1),), jars, expected)
        self.plays((command("set", 0, TOP), command("set", 1, -TOP)), (0, 0), ("told", (TOP, -TOP), 2))

    def test_place_comes_ahead_of_wide(self):
        for word in ("add", "mul"):
            for at, other in ((0, 1), (1, 0), (-1, 0), (0, -1), (1, 1)):
                self.plays((command(word, at, other),), (TOP,), ("fault", "place", 1))

    def test_when(self):
        body = (command("set", 1, 8), command("add", 1, 1))
        for number in (1, -1, TOP, -TOP):
            self.plays((command("when", 0, body), command("set", 2, 3)), (number, 0, 0), ("told", (number, 16, 3), 4))
        self.plays((command("when", 0, body), command("set", 2, 3)), (0, 0, 0), ("told", (0, 0, 3), 2))
        # It looks once, whatever its body does.
        self.plays((command("when", 0, (command("set", 0, 0),)), command("when", 0, (command("set", 1, 9),))), (1, 1),
                   ("told", (0, 1), 3))
        self.plays((command("when", 0, ()),), (1,), ("told", (1,), 1))
        self.plays((command("when", 0, ()),), (0,), ("told", (0,), 1))

    def test_loop(self):
        body = (command("sub", 0, 1), command("add", 2, 0))
        self.plays((command("loop", 0, body), command("set", 1, 7)), (4, 1, 0), ("told", (0, 7, 6), 4 * 3 + 2))
        self.plays((command("loop", 0, body),), (0, 1, 0), ("told", (0, 1, 0), 1))
        self.plays((command("loop", 0, ()),), (0,), ("told", (0,), 1))
        self.assert_same(play((command("loop", 0, ()),), (1,), 1000), ("out", None, 1000))
        self.assert_same(play((command("loop", 0, body),), (-1, 1, 0), 1000), ("out", None, 1000))

    def test_loops_within_loops(self):
        inner = (command("set", 2, 3), command("loop", 2, (command("sub", 2, 1), command("add", 3, 1))))
        score = (command("loop", 0, inner + (command("sub", 0, 1),)),)
        self.plays(score, (5, 1, 0, 0), ("told", (0, 1, 0, 15), 5 * (1 + 1 + 3 * 3 + 1 + 1) + 1))

    def test_faults_within_bodies(self):
        self.plays((command("loop", 0, (command("when", 0, (command("set", 9, 1),)),)),), (1,), ("fault", "place", 3))
        self.plays((command("loop", 0, (command("mul", 0, 0),)),), (10,), ("fault", "wide", 10))
        self.plays((command("when", 0, (command("set", 9, 1),)),), (0,), ("told", (0,), 1))

    def test_thousands_of_rounds(self):
        score = (command("loop", 0, (command("sub", 0, 1),)),)
        self.plays(score, (40000, 1), ("told", (0, 1), 80001))
        self.assert_same(play(score, (50000, 1), 100000), ("out", None, 100000))
        self.assert_same(play(score, (49999, 1), 100000), ("told", (0, 1), 99999))
        score = (command("loop", 0, (command("when", 1, ()), command("sub", 0, 1))),)
        self.plays(score, (30000, 1), ("told", (0, 1), 90001))

    def test_bodies_as_deep_as_the_parts_allow(self):
        self.plays(deep((command("set", 0, 0),)), (1,), ("told", (0,), 14))
        self.plays(deep((command("set", 0, 0),), "loop"), (1,), ("told", (0,), 13 + 1 + 13))

    def test_by_chance(self):
        seen = {"told": 0, "place": 0, "wide": 0, "out": 0}
        for chance, score in scores_by_chance(400, 1000):
            jars = chance.jars()
            for budget in (0, 1, 7, 300):
                expected = told_once_more(score, jars, budget)
                self.assert_same(play(score, jars, budget), expected, (score, jars, budget))
            seen[expected[1] if expected[0] == "fault" else expected[0]] += 1
        self.assertGreater(min(seen.values()), 10, seen)


class UnchangedTest(Case):
    def test_what_is_handed_in_stays(self):
        asked = []
        for chance, score in scores_by_chance(40, 2000):
            asked.append((score, chance.jars(), 200))
            self.assert_unchanged(play, *asked[-1])
            self.assert_unchanged(is_score, score)
        self.assert_steady(play, asked)
        self.assert_steady(is_score, [(score,) for score, _, _ in asked])
        self.assertGreater(len({plain(score) for score, _, _ in asked}), 20)
