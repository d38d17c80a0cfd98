"""The refusals of the interface's part foreknown/errors.py."""

from foreknown import errors
from foreknown.errors import (Fault, ForeError, NoFunction, NoOp, NoScore, NotLetBy, NoText, TooMany, Twice,
                              Unbound, WrongCount)
from helping import Case

REFUSALS = (Fault, NoOp, NoText, Twice, Unbound, NoFunction, WrongCount, NotLetBy, TooMany, NoScore)


class ErrorsTest(Case):
    def test_all_ten_are_there_by_their_names(self):
        names = ("Fault", "NoOp", "NoText", "Twice", "Unbound", "NoFunction", "WrongCount", "NotLetBy",
                 "TooMany", "NoScore")
        self.assertEqual(len(REFUSALS), 10)
        for name, refusal in zip(names, REFUSALS):
            self.assertIs(getattr(errors, name), refusal)
            self.assertEqual(refusal.__name__, name)

    def test_each_is_a_fore_error_and_a_value_error(self):
        self.assertTrue(issubclass(ForeError, ValueError))
        for refusal in REFUSALS:
            self.assertTrue(issubclass(refusal, ForeError), refusal)
            self.assertTrue(issubclass(refusal, ValueError), refusal)
            self.assertIsNot(refusal, ForeError)

    def test_none_is_beneath_another_one(self):
        for one in REFUSALS:
            for other in REFUSALS:
                self.assertEqual(issubclass(one, other), one is other, (one, other))

    def test_fields_of_one(self):
        for refusal, field, value in (
                (Fault, "word", "wide"), (Fault, "word", "own"), (NoOp, "word", ""), (NoOp, "word", "addd"),
                (NotLetBy, "row", ("let", "f", 3, "x")), (TooMany, "limit", 200), (TooMany, "limit", 1)):
            error = refusal(value)
            self.assert_same(getattr(error, field), value)

    def test_fields_of_two(self):
        for refusal in (Twice, Unbound, NoFunction, WrongCount):
            error = refusal("here", "there")
            self.assertEqual(error.function, "here")
            self.assertEqual(error.name, "there")

    def test_each_object_has_its_own_fields(self):
        first = Twice("f", "x")
        second = Twice("g", "y")
        self.assertEqual((first.function, first.name), ("f", "x"))
        self.assertEqual((second.function, second.name), ("g", "y"))

    def test_those_without_fields_take_nothing(self):
        for refusal in (NoText, NoScore):
            self.assertIsInstance(refusal(), refusal)

    def test_each_can_be_raised_and_taken(self):
        made = (Fault("low"), NoOp("x"), NoText(), Twice("f", "x"), Unbound("f", "x"), NoFunction("f", "g"),
                WrongCount("f", "g"), NotLetBy(("let", "f", 0, "x")), TooMany(3), NoScore())
        for error, refusal in zip(made, REFUSALS):
            for taken in (refusal, ForeError, ValueError):
                with self.assertRaises(taken) as context:
                    raise error
                self.assertIs(context.exception, error)
