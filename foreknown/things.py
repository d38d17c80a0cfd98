"""What stands by a name while a function is made: a value that is known, or a later name."""


class Thing:
    pass


class Known(Thing):
    def __init__(self, value):
        self.value = value

    def ahead(self):
        return True

    def atom(self):
        return ("is", self.value)


class Later(Thing):
    def __init__(self, name):
        self.name = name

    def ahead(self):
        return False

    def atom(self):
        return ("of", self.name)


def thing_of(atom, things):
    if atom[0] == "is":
        return Known(atom[1])
    return things[atom[1]]
