"""Joining: a function that one go alone aims at comes to stand where that go stands."""

from foreknown.partings import marked
from foreknown.renaming import renamed_block
from foreknown.shapes import MOST_IFS, MOST_LINES, aims_of, depth_of, lines_of, steps_of


# The functions but the main one at which one call or go alone aims, by their names.
def lone_functions(functions, main):
    aimed = {}
    for name in functions:
        for aim in aims_of(functions[name][2]):
            aimed[aim[0]] = aimed.get(aim[0], 0) + 1
    lone = {}
    for name in functions:
        if name != main and aimed.get(name, 0) == 1:
            lone[name] = functions[name]
    return lone


# One function while others come into it: how many lines it has, how many ifs
# within one another, and all of its names.
class Host:
    def __init__(self, function, lone):
        self.name = function[0]
        self.lone = lone
        self.taken = marked(function[1] + steps_of(function[2]))
        self.size = len(lines_of(function[2]))
        self.depth = depth_of(function[2])
        self.joined_names = []

    # Outer is here and below how many ifs the go lies in.
    def depth_with(self, target, outer):
        return max(self.depth, outer + depth_of(target[2]))

    # The go's own line is gone where the other function's come.
    def size_with(self, target):
        return self.size - 1 + len(lines_of(target[2]))

    def may_join(self, end, outer):
        if end[0] != "go" or end[1] == self.name or end[1] not in self.lone:
            return False
        target = self.lone[end[1]]
        return self.size_with(target) <= MOST_LINES and self.depth_with(target, outer) <= MOST_IFS

    def free_name(self, name):
        number = 0
        while name in self.taken:
            name = f"v{number}"
            number += 1
        self.taken[name] = True
        return name

    # The block that comes in the go's stead.
    def brought_by(self, end, outer):
        target = self.lone.pop(end[1])
        self.size = self.size_with(target)
        self.depth = self.depth_with(target, outer)
        self.joined_names.append(end[1])
        steads = dict(zip(target[1], end[2]))
        for name in steps_of(target[2]):
            steads[name] = ("of", self.free_name(name))
        return renamed_block(target[2], steads, {})

    # What is brought may end with a go that can be joined as well. That is
    # done in a loop: such a chain may be as long as there are functions.
    def joined_block(self, block, outer):
        steps = block[0]
        end = block[1]
        while self.may_join(end, outer):
            brought = self.brought_by(end, outer)
            steps = steps + brought[0]
            end = brought[1]
        if end[0] == "if":
            first = self.joined_block(end[2], outer + 1)
            end = ("if", end[1], first, self.joined_block(end[3], outer + 1))
        return (steps, end)


# Joins what can be joined, and takes out what is joined; tells the names of
# those functions into which others came.
def join_all(functions, main):
    lone = lone_functions(functions, main)
    hosts = []
    for name in list(functions):
        if name in functions:
            function = functions[name]
            host = Host(function, lone)
            functions[name] = (name, function[1], host.joined_block(function[2], 0))
            if name in lone:
                lone[name] = functions[name]
            for joined in host.joined_names:
                functions.pop(joined)
            if len(host.joined_names) > 0:
                hosts.append(name)
    return [name for name in hosts if name in functions]
