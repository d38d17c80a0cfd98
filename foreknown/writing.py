"""Values and programs written as texts."""

from foreknown.values import kind_of


def show_value(value):
    kind = kind_of(value)
    if kind == "number":
        return str(value)
    if kind == "word":
        return "'" + value
    if kind == "row":
        return "[" + ",".join([show_value(part) for part in value]) + "]"
    shown = [word + ":" + show_value(value[word]) for word in sorted(value)]
    return "{" + ",".join(shown) + "}"


def show_atom(atom):
    if atom[0] == "is":
        return show_value(atom[1])
    return atom[1]


def show_atoms(atoms):
    return [show_atom(atom) for atom in atoms]


def step_row(step):
    words = [step[1], "="]
    if step[0] == "call":
        words.append("call")
    return " ".join(words + [step[2]] + show_atoms(step[3]))


def end_row(end):
    if end[0] == "go":
        return " ".join(["go", end[1]] + show_atoms(end[2]))
    if end[0] == "fail":
        return "fail " + end[1]
    return end[0] + " " + show_atom(end[1])


def block_rows(block):
    end = block[1]
    rows = [step_row(step) for step in block[0]]
    rows.append(end_row(end))
    if end[0] == "if":
        return rows + block_rows(end[2]) + ["else"] + block_rows(end[3]) + ["end"]
    return rows


def show(program):
    rows = []
    for function in program:
        rows.append(" ".join(["fun", function[0]] + list(function[1])))
        rows.extend(block_rows(function[2]))
    return "\n".join(rows)
