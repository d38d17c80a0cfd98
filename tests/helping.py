"""What several tests need: comparing kind by kind, and programs in short."""

import copy
import unittest

WORDS = ("add", "sub", "mul", "div", "rem", "less", "same", "down", "kind", "front",
         "head", "rest", "many", "item", "put", "field", "set")

BOUND = 10 ** 18


def plain(thing):
    """A text that tells things apart also where == doesn't (1 and True).

    The order of a dict's parts is not told: records are the same without it.
    """
    if isinstance(thing, dict):
        parts = sorted(f"{plain(key)}:{plain(thing[key])}" for key in thing)
        return "dict{" + ",".join(parts) + "}"
    if isinstance(thing, (tuple, list)):
        return type(thing).__name__ + "(" + ",".join(plain(part) for part in thing) + ")"
    return type(thing).__name__ + " " + repr(thing)


def nested(depth, wrap, inmost):
    thing = inmost
    for _ in range(depth):
        thing = wrap(thing)
    return thing


def in_row(thing):
    return (thing,)


def in_record(thing):
    return {"a": thing}


def in_list(thing):
    return [thing]


def letters(count):
    """So many unlike words of two letters."""
    alphabet = "abcdefghijklmnopqrstuvwxyz"
    return [alphabet[k // 26] + alphabet[k % 26] for k in range(count)]


def outcome(function, arguments):
    """What a function tells, or the class and the fields of its refusal."""
    try:
        told = function(*arguments)
    except ValueError as error:
        return "refused " + type(error).__name__ + plain(vars(error))
    return "told " + plain(told)


class Case(unittest.TestCase):
    def assert_same(self, told, expected, message=None):
        self.assertEqual(plain(told), plain(expected), message)

    def assert_refused(self, expected, fields, function, *arguments):
        """That a refusal comes, of this very class and with these fields."""
        try:
            told = function(*arguments)
        except expected as error:
            self.assertIs(type(error), expected, arguments)
            for field, value in fields.items():
                self.assert_same(getattr(error, field), value, arguments)
            return
        self.fail(f"{expected.__name__} was to come of {arguments!r}, told was {told!r}")

    def assert_unchanged(self, function, *arguments):
        """That what is handed in stays as it was, the order of dicts too."""
        before = repr(arguments)
        outcome(function, arguments)
        self.assertEqual(repr(arguments), before)

    def assert_steady(self, function, asked):
        """That each asking is told the same again, behind all the others too,
        and that what was told first is not changed by the later askings."""
        told = [function(*arguments) for arguments in asked]
        kept = copy.deepcopy(told)
        again = [function(*arguments) for arguments in reversed(asked)]
        self.assert_same(again[::-1], kept)
        self.assert_same(told, kept)
        self.assertEqual(repr(told), repr(kept))
