"""[5] what the seventeen ops tell and which faults; [6] which fall, which never fault."""

import copy

from foreknown.errors import Fault, NoOp
from foreknown.ops import Op, op_of
from helping import BOUND, Case, WORDS, letters, nested, in_row

TOP = BOUND - 1
LOWEST = 1 - BOUND

# What each op takes, as the document writes it.
TAKES = {
    "add": "nm", "sub": "nm", "mul": "nm", "div": "nm", "rem": "nm", "less": "nm", "same": "xy", "down": "n",
    "kind": "x", "front": "xr", "head": "r", "rest": "r", "many": "r", "item": "rn", "put": "rnx", "field": "cw",
    "set": "cwx",
}

# A value for each place that makes no fault in any op.
GOOD = {"n": 1, "m": 1, "r": (5, 6), "c": {"a": 5}, "w": "a", "x": 7, "y": 7}

KIND_OF_SIGN = {"n": "number", "m": "number", "r": "row", "c": "record", "w": "word"}

# Of each kind several values, those that are easily taken for another kind among them.
OF_KIND = {
    "number": (0, 1, -1, TOP),
    "word": ("a", "row", "number"),
    "row": ((), (0,), ("a", "b")),
    "record": ({}, {"a": 0}, {"a": (), "b": 1}),
}


def answer(word, *values):
    return op_of(word).answer(values)


class OpCase(Case):
    def tells(self, expected, word, *values):
        before = repr(values)
        self.assert_same(answer(word, *values), expected, (word, values))
        self.assertEqual(repr(values), before)

    def faults(self, expected, word, *values):
        before = repr(values)
        self.assert_refused(Fault, {"word": expected}, answer, word, *values)
        self.assertEqual(repr(values), before)


class NumbersTest(OpCase):
    def test_add(self):
        for n, m, expected in ((2, 3, 5), (2, -3, -1), (-2, -3, -5), (0, 0, 0), (TOP, 0, TOP), (TOP, LOWEST, 0),
                               (TOP - 1, 1, TOP), (1, TOP - 1, TOP), (LOWEST + 1, -1, LOWEST), (LOWEST, 0, LOWEST)):
            self.tells(expected, "add", n, m)
        for n, m in ((TOP, 1), (1, TOP), (LOWEST, -1), (-1, LOWEST), (TOP, TOP), (LOWEST, LOWEST)):
            self.faults("wide", "add", n, m)

    def test_sub(self):
        for n, m, expected in ((2, 3, -1), (3, 2, 1), (-2, -3, 1), (2, -3, 5), (TOP, TOP, 0), (TOP - 1, -1, TOP),
                               (LOWEST + 1, 1, LOWEST), (0, TOP, LOWEST), (0, LOWEST, TOP)):
            self.tells(expected, "sub", n, m)
        for n, m in ((TOP, -1), (LOWEST, 1), (1, LOWEST), (-1, TOP), (TOP, LOWEST), (LOWEST, TOP)):
            self.faults("wide", "sub", n, m)

    def test_mul(self):
        for n, m, expected in ((2, 3, 6), (-2, 3, -6), (-2, -3, 6), (0, TOP, 0), (0, -5, 0), (TOP, 1, TOP),
                               (TOP, -1, LOWEST), (LOWEST, -1, TOP), (3, 333333333333333333, TOP),
                               (-3, 333333333333333333, LOWEST), (3, -333333333333333333, LOWEST)):
            self.tells(expected, "mul", n, m)
        for n, m in ((10 ** 9, 10 ** 9), (-10 ** 9, 10 ** 9), (-10 ** 9, -10 ** 9), (2, 5 * 10 ** 17),
                     (2, -5 * 10 ** 17), (TOP, TOP), (TOP, LOWEST), (2, TOP)):
            self.faults("wide", "mul", n, m)

    def test_div_and_rem_with_each_mix_of_signs(self):
        for n, m, quotient, remainder in (
                (7, 2, 3, 1), (-7, 2, -4, 1), (7, -2, -4, -1), (-7, -2, 3, -1), (6, 3, 2, 0), (-6, 3, -2, 0),
                (6, -3, -2, 0), (-6, -3, 2, 0), (0, 5, 0, 0), (0, -5, 0, 0), (1, 5, 0, 1), (-1, 5, -1, 4),
                (1, -5, -1, -4), (-1, -5, 0, -1), (TOP, 1, TOP, 0), (LOWEST, -1, TOP, 0), (TOP, -1, LOWEST, 0),
                (TOP, TOP, 1, 0), (LOWEST, TOP, -1, 0), (TOP, 10, 10 ** 17 - 1, 9), (LOWEST, 10, -10 ** 17, 1)):
            self.tells(quotient, "div", n, m)
            self.tells(remainder, "rem", n, m)

    def test_nought(self):
        for n in (0, 1, -1, TOP, LOWEST):
            self.faults("nought", "div", n, 0)
            self.faults("nought", "rem", n, 0)

    def test_less(self):
        for n, m, expected in ((1, 2, 1), (2, 1, 0), (2, 2, 0), (-1, 0, 1), (0, -1, 0), (-2, -1, 1), (0, 0, 0),
                               (LOWEST, TOP, 1), (TOP, LOWEST, 0), (TOP - 1, TOP, 1)):
            self.tells(expected, "less", n, m)

    def test_down(self):
        for n, expected in ((1, 0), (2, 1), (40, 39), (TOP, TOP - 1)):
            self.tells(expected, "down", n)
        for n in (0, -1, -2, LOWEST):
            self.faults("low", "down", n)


class SameAndKindTest(OpCase):
    def test_same(self):
        ones = (0, 1, -1, TOP, LOWEST, "a", "b", "aa", "row", (), (0,), ("a",), ((),), (0, 0), {}, {"a": 0},
                {"b": 0}, {"a": 1}, {"a": 0, "b": 0}, ({},), {"a": ()}, {"a": {}})
        for k, one in enumerate(ones):
            for j, other in enumerate(ones):
                self.tells(1 if k == j else 0, "same", one, copy.deepcopy(other))

    def test_same_of_records_with_their_parts_in_another_order(self):
        self.tells(1, "same", {"a": 1, "b": 2}, {"b": 2, "a": 1})
        self.tells(0, "same", {"a": 1, "b": 2}, {"b": 1, "a": 2})
        self.tells(1, "same", ({"a": 1, "b": {"c": (), "d": 2}},), ({"b": {"d": 2, "c": ()}, "a": 1},))
        self.tells(0, "same", (1, 2), (2, 1))

    def test_kind(self):
        for kind, values in OF_KIND.items():
            for value in values:
                self.tells(kind, "kind", value)

    def test_they_take_values_of_sixty_parts(self):
        row = (1,) * 59
        record = {word: 1 for word in letters(59)}
        for value, kind in ((row, "row"), (record, "record"), (nested(59, in_row, 0), "row")):
            self.tells(1, "same", value, copy.deepcopy(value))
            self.tells(0, "same", value, 1)
            self.tells(kind, "kind", value)


class RowsTest(OpCase):
    def test_front(self):
        self.tells((1,), "front", 1, ())
        self.tells((1, 2, 3), "front", 1, (2, 3))
        self.tells(((), 2), "front", (), (2,))
        self.tells(((1, 2), 3), "front", (1, 2), (3,))
        self.tells(({"a": 1}, "b"), "front", {"a": 1}, ("b",))

    def test_head(self):
        for row, expected in (((1,), 1), ((1, 2), 1), (((), 1), ()), (("a", "b"), "a"), (({"a": 1},), {"a": 1})):
            self.tells(expected, "head", row)
        self.faults("empty", "head", ())

    def test_rest(self):
        for row, expected in (((1,), ()), ((1, 2), (2,)), ((1, 2, 3), (2, 3)), (((), ()), ((),))):
            self.tells(expected, "rest", row)
        self.faults("empty", "rest", ())

    def test_many(self):
        for row, expected in (((), 0), ((1,), 1), ((1, 1), 2), (((1, 2, 3),), 1), ((1,) * 59, 59)):
            self.tells(expected, "many", row)

    def test_item(self):
        row = ("a", (), 7)
        for place, expected in enumerate(row):
            self.tells(expected, "item", row, place)
        self.tells(1, "item", (1,), 0)
        for place in (-1, -2, -3, -4, 3, 4, 1000, TOP, LOWEST):
            self.faults("place", "item", row, place)
        for place in (0, -1, 1):
            self.faults("place", "item", (), place)

    def test_put(self):
        row = ("a", (), 7)
        self.tells((9, (), 7), "put", row, 0, 9)
        self.tells(("a", 9, 7), "put", row, 1, 9)
        self.tells(("a", (), 9), "put", row, 2, 9)
        self.tells(("a", (), row), "put", row, 2, row)
        self.tells(({"a": 1},), "put", (1,), 0, {"a": 1})
        for place in (-1, -2, -3, -4, 3, 4, 1000, TOP, LOWEST):
            self.faults("place", "put", row, place, 9)
        for place in (0, -1, 1):
            self.faults("place", "put", (), place, 9)


class RecordsTest(OpCase):
    def test_field(self):
        record = {"a": 1, "abcdefgh": (), "c": {"d": 2}}
        for word, expected in record.items():
            self.tells(expected, "field", record, word)
        for word in ("b", "d", "aa", "abcdefg"):
            self.faults("field", "field", record, word)
        self.faults("field", "field", {}, "a")

    def test_set_on_a_word_that_stands_there(self):
        self.tells({"a": 2}, "set", {"a": 1}, "a", 2)
        self.tells({"a": 1, "b": ()}, "set", {"a": 1, "b": 2}, "b", ())
        self.tells({"a": {"a": 1}}, "set", {"a": 1}, "a", {"a": 1})
        self.tells({"a": 1}, "set", {"a": 1}, "a", 1)

    def test_set_on_a_word_that_does_not(self):
        self.tells({"a": 1}, "set", {}, "a", 1)
        self.tells({"a": 1, "b": "c"}, "set", {"a": 1}, "b", "c")
        self.tells({"a": {"b": 1}, "b": 2}, "set", {"a": {"b": 1}}, "b", 2)


class KindFaultTest(OpCase):
    def test_each_value_that_an_op_takes(self):
        for word, signs in TAKES.items():
            for place, sign in enumerate(signs):
                for kind, wrongs in OF_KIND.items():
                    if sign in "xy" or kind == KIND_OF_SIGN[sign]:
                        continue
                    for wrong in wrongs:
                        values = [GOOD[one] for one in signs]
                        values[place] = wrong
                        self.faults("kind", word, *values)

    def test_good_values_make_no_fault(self):
        for word, signs in TAKES.items():
            answer(word, *[GOOD[sign] for sign in signs])

    def test_any_kind_where_any_value_is_taken(self):
        for values in OF_KIND.values():
            for value in values:
                self.tells(1, "same", value, value)
                self.tells((value,), "front", value, ())
                self.tells((value,), "put", (1,), 0, value)
                self.tells({"a": value}, "set", {}, "a", value)

    def test_kind_ahead_of_all_others(self):
        row = (1,) * 59
        record = {word: 1 for word in letters(59)}
        for word, values in (
                ("add", (TOP, "a")), ("div", ("a", 0)), ("rem", ((), 0)), ("div", ({}, 0)), ("item", ((), "a")),
                ("item", ("a", -1)), ("put", ((), "a", 1)), ("put", (row, "a", row)), ("put", ({}, 99, 1)),
                ("field", ({}, 1)), ("field", ((), "a")), ("front", (row, record)), ("set", (record, 1, row)),
                ("set", (row, "a", row)), ("put", ("a", 0, row)), ("head", ("a",)), ("down", ({},))):
            self.faults("kind", word, *values)


class LargeTest(OpCase):
    def test_front(self):
        self.tells((1,) * 59, "front", 1, (1,) * 58)
        self.faults("large", "front", 1, (1,) * 59)
        self.tells(((1,) * 29,) + (1,) * 29, "front", (1,) * 29, (1,) * 29)
        self.faults("large", "front", (1,) * 30, (1,) * 29)
        self.faults("large", "front", (1,) * 29, (1,) * 30)
        self.faults("large", "front", {word: 1 for word in letters(59)}, ())
        self.tells(({word: 1 for word in letters(58)},), "front", {word: 1 for word in letters(58)}, ())
        self.tells(nested(60, in_row, ())[0], "front", nested(58, in_row, ()), ())
        self.faults("large", "front", nested(59, in_row, ()), ())
        self.faults("large", "front", (1,) * 59, (1,) * 59)

    def test_put(self):
        row = (1,) * 30
        self.tells(((1,) * 29,) + (1,) * 29, "put", row, 0, (1,) * 29)
        self.faults("large", "put", row, 0, (1,) * 30)
        self.tells((1,) * 29 + ((1,) * 29,), "put", row, 29, (1,) * 29)
        self.faults("large", "put", row, 29, (1,) * 30)
        self.tells(((1,) * 58,), "put", ((1,) * 58,), 0, (1,) * 58)
        self.tells((1,) * 59, "put", (1,) * 59, 58, 1)
        self.faults("large", "put", (1,) * 59, 58, (1,))

    def test_set(self):
        names = letters(59)
        record = {word: 1 for word in names[:58]}
        self.tells({word: 1 for word in names}, "set", record, names[58], 1)
        self.faults("large", "set", record, names[58], (1,))
        record = {word: 1 for word in names}
        self.tells(record, "set", record, names[0], 1)
        self.tells(dict(record, ba=()), "set", record, "ba", ())
        self.faults("large", "set", record, names[0], (1,))
        self.faults("large", "set", record, "zz", 1)
        self.tells({"a": 2}, "set", {"a": (1,) * 58}, "a", 2)
        self.tells({"a": (1,) * 28, "b": (1,) * 29}, "set", {"a": (1,) * 28}, "b", (1,) * 29)
        self.faults("large", "set", {"a": (1,) * 29}, "b", (1,) * 29)

    def test_behind_all_others(self):
        row = (1,) * 59
        for place in (-1, 59, 1000):
            self.faults("place", "put", row, place, row)
        self.faults("place", "put", (), 0, row)


class OpOfTest(Case):
    def test_word_and_many(self):
        self.assertEqual(len(WORDS), 17)
        for word in WORDS:
            op = op_of(word)
            self.assertIsInstance(op, Op)
            self.assert_same(op.word, word)
            self.assert_same(op.many, len(TAKES[word]))

    def test_falls(self):
        for word in WORDS:
            expected = word in ("down", "head", "rest", "item", "field")
            self.assertIs(op_of(word).falls(), expected, word)

    def test_never_faults(self):
        for word in WORDS:
            self.assertIs(op_of(word).never_faults(), word in ("same", "kind"), word)

    def test_other_texts(self):
        others = ["", " ", "call", "give", "go", "if", "fail", "number", "wide", "any", "op", "up", "not"]
        for word in WORDS:
            others.extend((word + "s", "x" + word, word + " ", " " + word, word + "\n", word[:-1], word[1:],
                           word.upper(), word.title(), word + word))
        for text in others:
            if text not in WORDS:
                self.assert_refused(NoOp, {"word": text}, op_of, text)

    def test_what_falls_tells_a_piece_of_its_first_value(self):
        self.assert_same(answer("down", 5), 4)
        record = {"a": (1,)}
        row = (record, 2)
        self.assert_same(answer("head", row), record)
        self.assert_same(answer("rest", row), (2,))
        self.assert_same(answer("item", row, 1), 2)
        self.assert_same(answer("field", record, "a"), (1,))


class UnchangedTest(Case):
    def test_what_is_handed_in_and_told_stays_as_it_was(self):
        record = {"b": {"d": 1, "c": 2}, "a": (3,)}
        row = (record, {"z": 1, "y": ()}, 5)
        asked = [("front", (record, row)), ("front", (1, row)), ("put", (row, 1, record)), ("put", (row, 0, 7)),
                 ("set", (record, "b", 9)), ("set", (record, "e", row)), ("set", (record, "a", record)),
                 ("field", (record, "b")), ("head", (row,)), ("rest", (row,)), ("item", (row, 1))]
        before = repr((record, row))
        told = [answer(word, *values) for word, values in asked]
        kept = repr(told)
        for word, values in asked:
            answer(word, *values)
        for one in told:
            if isinstance(one, dict):
                answer("set", one, "q", 1)
                answer("set", one, "a", 1)
            elif isinstance(one, tuple):
                answer("front", 1, one)
                answer("put", one, 0, 1)
        self.assertEqual(repr(told), kept)
        self.assertEqual(repr((record, row)), before)

    def test_the_same_object_tells_the_same_again(self):
        second = {"n": 2, "m": 3, "r": (8, 9, "z"), "c": {"a": 6, "b": ()}, "w": "a", "x": "q", "y": ()}
        for word, signs in TAKES.items():
            op = op_of(word)
            first_values = tuple(GOOD[sign] for sign in signs)
            second_values = tuple(second[sign] for sign in signs)
            self.assert_steady(op.answer, [(first_values,), (second_values,)])
            self.assert_same((op.word, op.many), (word, len(signs)))

    def test_a_fault_does_not_stay(self):
        for word, fine, faulty in (
                ("add", (1, 2), (TOP, 1)), ("div", (6, 3), (6, 0)), ("head", ((1,),), ((),)),
                ("item", ((1,), 0), ((1,), 1)), ("field", ({"a": 1}, "a"), ({"a": 1}, "b")), ("down", (1,), (0,)),
                ("front", (1, ()), (1, (1,) * 59)), ("set", ({}, "a", 1), ((), "a", 1))):
            op = op_of(word)
            first = op.answer(fine)
            self.assertRaises(Fault, op.answer, faulty)
            self.assert_same(op.answer(fine), first)
            self.assertRaises(Fault, op.answer, faulty)

    def test_two_objects_of_one_op_and_of_two_ops(self):
        add = op_of("add")
        sub = op_of("sub")
        other = op_of("add")
        self.assert_same((add.answer((5, 3)), sub.answer((5, 3)), other.answer((1, 1)), add.answer((5, 3))),
                         (8, 2, 2, 8))
        self.assert_same((add.word, sub.word, other.word), ("add", "sub", "add"))
