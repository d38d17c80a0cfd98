"""Scores: a second language, of commands that work on jars, and its own runner."""

from foreknown.errors import Fault
from foreknown.ops import op_of, place_in
from foreknown.values import is_value, is_word, kind_of

# By each command's word its parts beside `do`, each with what it must be.
PARTS = {
    "set": (("at", "number"), ("n", "number")),
    "add": (("at", "number"), ("from", "number")),
    "sub": (("at", "number"), ("from", "number")),
    "mul": (("at", "number"), ("from", "number")),
    "when": (("at", "number"), ("body", "score")),
    "loop": (("at", "number"), ("body", "score")),
}


def has_part(command, word, asked):
    if word not in command:
        return False
    if asked == "score":
        return is_row_of_commands(command[word])
    return kind_of(command[word]) == asked


def is_command(value):
    if kind_of(value) != "record" or not is_word(value.get("do")):
        return False
    parts = PARTS.get(value["do"], ())
    if len(parts) == 0 or len(value) != 1 + len(parts):
        return False
    return all([has_part(value, word, asked) for word, asked in parts])


def is_row_of_commands(value):
    return kind_of(value) == "row" and all([is_command(part) for part in value])


def is_score(value):
    return is_value(value) and is_row_of_commands(value)


# A score or a body while it is played, and how many of its commands lie behind.
class Page:
    def __init__(self, commands):
        self.commands = commands
        self.place = 0

    def at_end(self):
        return self.place == len(self.commands)


# The pages stand in a list, the inmost body last.
class Player:
    def __init__(self, score, jars):
        self.jars = list(jars)
        self.pages = [Page(score)]

    # Going back from a body's end is no step, so it is done ahead of asking.
    def at_rest(self):
        while len(self.pages) > 0 and self.pages[-1].at_end():
            self.pages.pop()
        return len(self.pages) == 0

    def jar_at(self, number):
        return self.jars[place_in(self.jars, number)]

    # What is put into the jar: set's own number, or what the op by the same
    # word tells of both jars.
    def number_for(self, command, here):
        if command["do"] == "set":
            return command["n"]
        return op_of(command["do"]).answer((here, self.jar_at(command["from"])))

    # A loop stays the next command of its page while its body is played: so it
    # is looked at again behind that.
    def go_command(self):
        page = self.pages[-1]
        command = page.commands[page.place]
        here = self.jar_at(command["at"])
        if command["do"] not in ("when", "loop"):
            self.jars[command["at"]] = self.number_for(command, here)
            page.place += 1
            return
        if command["do"] == "when" or here == 0:
            page.place += 1
        if here != 0:
            self.pages.append(Page(command["body"]))


def play(score, jars, budget):
    player = Player(score, jars)
    steps = 0
    while not player.at_rest():
        if steps == budget:
            return ("out", None, budget)
        steps += 1
        try:
            player.go_command()
        except Fault as fault:
            return ("fault", fault.word, steps)
    return ("told", tuple(player.jars), steps)
