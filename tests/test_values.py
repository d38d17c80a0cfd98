"""[3] what a value is and how many parts it has; [4] its weight."""

from foreknown.values import is_value, kind_of, parts, weight
from helping import BOUND, Case, in_list, in_record, in_row, letters, nested, pieces

NO_VALUES = (True, False, None, [], [1], ["a"], [()], "", "A", BOUND, -BOUND, {1: 2}, {"": 1}, {"a": None})


def wide_row(count):
    return (1,) * count


def wide_record(count):
    return {word: 1 for word in letters(count)}


class IsValueTest(Case):
    def yes(self, thing):
        self.assertIs(is_value(thing), True, repr(thing)[:200])

    def no(self, thing):
        self.assertIs(is_value(thing), False, repr(thing)[:200])

    def test_numbers(self):
        for number in (0, 1, -1, 7, 10 ** 17, -10 ** 17, BOUND - 1, -BOUND + 1):
            self.yes(number)
        for number in (BOUND, -BOUND, BOUND + 1, -BOUND - 1, 10 ** 19, 10 ** 40, -10 ** 40, 2 ** 64, 10 ** 400):
            self.no(number)

    def test_truths_none_and_lists(self):
        for thing in (True, False, None, [], [1], [[]], ["a", 1], [()], [{}]):
            self.no(thing)

    def test_words(self):
        for word in ("a", "z", "m", "az", "abcdefgh", "zzzzzzzz", "number", "if"):
            self.yes(word)
        for text in ("", "abcdefghi", "zzzzzzzzz", "a" * 20, "a" * 499, " ", "\n", "'a", "a b"):
            self.no(text)

    def test_a_sign_that_is_no_small_letter_at_each_place(self):
        for length in range(1, 9):
            for place in range(length):
                for sign in "AZ09_`{ -'\n@[":
                    self.no("a" * place + sign + "z" * (length - place - 1))

    def test_rows_and_records(self):
        for thing in ((), {}, (1,), ("a", 2), ((), ()), ({},), {"a": 1}, {"abcdefgh": "abcdefgh"}, {"a": {}},
                      {"a": (), "b": {"a": (1, "c")}}, (1, ("a", {"b": (-1, {})})), (BOUND - 1, 1 - BOUND)):
            self.yes(thing)

    def test_keys_that_are_no_words(self):
        for key in (0, 1, -5, BOUND, True, False, None, "", "A", "aB", "a1", "a ", "abcdefghi", (), ("a",),
                    (1, (None,)), nested(60, in_row, "a")):
            self.no({key: 1})
            self.no({"a": 1, key: 1})
            self.no({key: 1, "a": 1})
            self.no(({"a": {key: ()}},))

    def test_what_is_no_value_within_rows_and_records(self):
        for thing in NO_VALUES:
            self.no((thing,))
            self.no({"a": thing})
            self.no((1, 2, thing))
            self.no((thing, 1, 2))
            self.no((1, thing, 2))
            self.no({"a": 1, "b": thing, "c": 1})
            self.no({"a": ({"b": (1, (thing, 2))}, 3)})
            for wrap in (in_row, in_record):
                self.no(nested(30, wrap, thing))

    def test_sixty_parts_and_sixty_one(self):
        self.yes(wide_row(59))
        self.no(wide_row(60))
        self.yes(wide_record(59))
        self.no(wide_record(60))
        self.yes(("a",) * 59)
        self.no(("a",) * 60)
        for wrap in (in_row, in_record):
            for inmost in ((), {}, 1, "a"):
                self.yes(nested(59, wrap, inmost))
                self.no(nested(60, wrap, inmost))

    def test_sixty_parts_and_sixty_one_in_many_rows(self):
        self.yes(((1,) * 28, (1,) * 29))
        self.no(((1,) * 29, (1,) * 29))
        self.yes({"a": wide_record(28), "b": wide_row(29)})
        self.no({"a": wide_record(29), "b": wide_row(29)})
        self.yes(((),) * 59)
        self.no(((),) * 60)
        self.yes((1,) * 10 + (wide_row(48),))
        self.no((1,) * 10 + (wide_row(49),))

    def test_what_stands_twice_counts_twice(self):
        row = wide_row(28)
        self.yes((row, row))
        row = wide_row(29)
        self.no((row, row))
        record = wide_record(29)
        self.no({"a": record, "b": record})

    def test_nested_seventy_deep(self):
        for wrap in (in_row, in_record, in_list):
            for inmost in ((), 1, "a", None, True, []):
                self.no(nested(68, wrap, inmost))
                self.no(nested(69, wrap, inmost))
        self.no(nested(34, lambda thing: ({"a": thing},), ()))

    def test_five_hundred_parts(self):
        self.no(wide_row(499))
        self.no(wide_record(240))
        self.no([1] * 499)
        self.no(((1,) * 99,) * 4 + (1,) * 99)
        self.no({key: 1 for key in range(240)})


class PartsTest(Case):
    def test_each_kind(self):
        for value, count in ((0, 1), (BOUND - 1, 1), (-7, 1), ("a", 1), ("abcdefgh", 1), ((), 1), ({}, 1),
                             ((1,), 2), ((1, 1), 3), (((), ()), 3), (((1, 2), ("a",)), 6), ({"a": 1}, 2),
                             ({"a": 1, "b": 1}, 3), ({"a": {"b": ()}}, 3), (({"a": (1, 2)}, {}), 6),
                             ({"a": (1, {"b": 2, "c": ()})}, 6)):
            self.assert_same(parts(value), count, value)

    def test_what_stands_twice_counts_twice(self):
        row = (1, "a")
        self.assert_same(parts((row, row)), 7)
        self.assert_same(parts({"a": row, "b": row, "c": row}), 10)

    def test_sixty(self):
        for value in (wide_row(59), wide_record(59), nested(59, in_row, 1), nested(59, in_record, ())):
            self.assert_same(parts(value), 60)


class KindOfTest(Case):
    def test_each_kind(self):
        for value in (0, -1, BOUND - 1):
            self.assert_same(kind_of(value), "number")
        for value in ("a", "row", "number"):
            self.assert_same(kind_of(value), "word")
        for value in ((), (1,), ({},)):
            self.assert_same(kind_of(value), "row")
        for value in ({}, {"a": ()}):
            self.assert_same(kind_of(value), "record")


class WeightTest(Case):
    def test_numbers(self):
        for number, expected in ((0, 1), (1, 2), (2, 3), (41, 42), (-1, 1), (-2, 1), (-100, 1),
                                 (BOUND - 1, BOUND), (1 - BOUND, 1)):
            self.assert_same(weight(number), expected, number)

    def test_words(self):
        for word in ("a", "zz", "abcdefgh"):
            self.assert_same(weight(word), 1)

    def test_rows(self):
        for row, expected in (((), 1), ((0,), 3), ((5,), 8), ((-5,), 3), (("a",), 3), (("a", "a"), 5),
                              ((1, 2, 3), 13), (((),), 3), (((), ()), 5), (((1,),), 6), (((2, "a"), 3), 14)):
            self.assert_same(weight(row), expected, row)

    def test_records(self):
        for record, expected in (({}, 1), ({"a": 0}, 2), ({"a": 5}, 7), ({"a": -5}, 2), ({"a": "b", "c": "d"}, 3),
                                 ({"a": {}}, 2), ({"a": {"b": {}}}, 3), ({"a": (1,), "b": 3}, 9)):
            self.assert_same(weight(record), expected, record)

    def test_rows_and_records_in_one_another(self):
        self.assert_same(weight(({"a": 1}, {})), 7)
        self.assert_same(weight({"a": ({"b": 2}, "c")}), 9)
        self.assert_same(weight((BOUND - 1, BOUND - 1)), 2 * BOUND + 3)
        self.assert_same(weight(nested(59, in_row, 0)), 119)
        self.assert_same(weight(nested(59, in_record, 0)), 60)

    def test_no_more_unlike_pieces_than_the_weight(self):
        small = (0, 1, 7, -3, "a", (), {}, (0,), (3,), (-3,), ("a", "b"), (1, 2, 3), (3, 2, 1), ((), ((),)),
                 {"a": 4}, {"a": "b", "c": "d"}, {"a": (1, 2), "b": (2,)}, ({"a": 1}, {"a": 2}, 5),
                 (("a", "b"), ("c", "d"), "e"), {"a": {"b": {"c": ("d", 6)}}})
        for value in small:
            self.assertLessEqual(len(pieces(value)), weight(value), value)

    def test_as_many_unlike_pieces_as_the_weight_may_be(self):
        for value in (0, 9, "a", (), {}, {"a": 4}):
            self.assertEqual(len(pieces(value)), weight(value), value)


class UnchangedTest(Case):
    def test_what_is_handed_in_is_not_changed(self):
        for value in ((1, {"b": 2, "a": (3,)}), {"b": (), "a": {"d": 1, "c": ("e",)}}, wide_record(59)):
            for function in (is_value, parts, kind_of, weight):
                self.assert_unchanged(function, value)
        for thing in ([1, [2]], {2: 1, None: 3}, ([1], {"b": None, "a": True})):
            self.assert_unchanged(is_value, thing)

    def test_asked_again_the_same_is_told(self):
        asked = [(value,) for value in (0, "a", (), {}, (1, 2), {"a": (1,)}, wide_row(59), wide_record(59))]
        for function in (is_value, parts, kind_of, weight):
            self.assert_steady(function, asked)
        self.assert_steady(is_value, [(thing,) for thing in NO_VALUES])
