"""The refusals, each a class of its own beneath ForeError."""


class ForeError(ValueError):
    pass


class Fault(ForeError):
    def __init__(self, word):
        self.word = word


class NoOp(ForeError):
    def __init__(self, word):
        self.word = word


class NoText(ForeError):
    pass


class Twice(ForeError):
    def __init__(self, function, name):
        self.function = function
        self.name = name


class Unbound(ForeError):
    def __init__(self, function, name):
        self.function = function
        self.name = name


class NoFunction(ForeError):
    def __init__(self, function, name):
        self.function = function
        self.name = name


class WrongCount(ForeError):
    def __init__(self, function, name):
        self.function = function
        self.name = name


class NotLetBy(ForeError):
    def __init__(self, row):
        self.row = row


class TooMany(ForeError):
    def __init__(self, limit):
        self.limit = limit


class NoScore(ForeError):
    pass
