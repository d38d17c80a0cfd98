"""Values and programs read from texts, just as writing writes them."""

from foreknown.checks import check
from foreknown.errors import NoOp, NoText
from foreknown.ops import op_of
from foreknown.shapes import FIGURES, MOST_FUNCTIONS, MOST_IFS, MOST_LINES, MOST_PARAMS, is_name, lines_of
from foreknown.values import LETTERS, MOST_PARTS, is_word

# A number of more figures is no value, and Python reads no text of thousands.
MOST_FIGURES = 18


class ValueReader:
    def __init__(self, text):
        self.text = text
        self.place = 0
        self.begun = 0

    # The sign at the place, the empty text behind the last one.
    def sign_here(self):
        return self.text[self.place:self.place + 1]

    def pass_sign(self, sign):
        if self.sign_here() != sign:
            raise NoText()
        self.place += 1

    # Passes the sign only where it stands there.
    def passes(self, sign):
        if self.sign_here() != sign:
            return False
        self.place += 1
        return True

    def run_of(self, signs):
        start = self.place
        while self.place < len(self.text) and self.text[self.place] in signs:
            self.place += 1
        return self.text[start:self.place]

    # Parts are counted as they begin, so that a text nests no deeper than a
    # value may, however many brackets it opens.
    def read_part(self):
        self.begun += 1
        if self.begun > MOST_PARTS:
            raise NoText()
        if self.passes("'"):
            return self.read_word()
        if self.passes("["):
            return self.read_row()
        if self.passes("{"):
            return self.read_record()
        return self.read_number()

    def read_word(self):
        word = self.run_of(LETTERS)
        if not is_word(word):
            raise NoText()
        return word

    def read_number(self):
        below = self.passes("-")
        figures = self.run_of(FIGURES)
        if not 1 <= len(figures) <= MOST_FIGURES:
            raise NoText()
        if figures[0] == "0" and (below or len(figures) > 1):
            raise NoText()
        return -int(figures) if below else int(figures)

    def read_row(self):
        if self.passes("]"):
            return ()
        row = [self.read_part()]
        while self.passes(","):
            row.append(self.read_part())
        self.pass_sign("]")
        return tuple(row)

    def read_record(self):
        if self.passes("}"):
            return {}
        record = {}
        self.read_entry(record, "")
        while self.passes(","):
            self.read_entry(record, max(record))
        self.pass_sign("}")
        return record

    # A word must come behind the last one: so none stands twice, too.
    def read_entry(self, record, last):
        word = self.read_word()
        if word <= last:
            raise NoText()
        self.pass_sign(":")
        record[word] = self.read_part()


def read_value(text):
    if not isinstance(text, str):
        raise NoText()
    reader = ValueReader(text)
    value = reader.read_part()
    if reader.place < len(text):
        raise NoText()
    return value


def name_of(word):
    if not is_name(word):
        raise NoText()
    return word


# A name begins with a letter and no value does, so no text is both.
def atom_of(word):
    if is_name(word):
        return ("of", word)
    return ("is", read_value(word))


def atoms_read(words):
    return tuple([atom_of(word) for word in words])


def op_read(word, atoms):
    try:
        op = op_of(word)
    except NoOp:
        raise NoText() from None
    if len(atoms) != op.many:
        raise NoText()
    return word


# Asked ahead of all else: a name may be any word that begins another row.
def is_step_row(words):
    return len(words) > 1 and words[1] == "="


def step_of(words):
    if len(words) < 3:
        raise NoText()
    name = name_of(words[0])
    if words[2] != "call":
        atoms = atoms_read(words[3:])
        return ("let", name, op_read(words[2], atoms), atoms)
    if len(words) < 4:
        raise NoText()
    return ("call", name, name_of(words[3]), atoms_read(words[4:]))


def plain_end_of(words):
    if len(words) < 2:
        raise NoText()
    if words[0] == "go":
        return ("go", name_of(words[1]), atoms_read(words[2:]))
    if len(words) > 2:
        raise NoText()
    if words[0] == "give":
        return ("give", atom_of(words[1]))
    if words[0] == "fail" and is_word(words[1]):
        return ("fail", words[1])
    raise NoText()


class ProgramReader:
    def __init__(self, text):
        self.rows = [row.split(" ") for row in text.split("\n")]
        self.place = 0

    def at_end(self):
        return self.place == len(self.rows)

    def take_words(self):
        if self.at_end():
            raise NoText()
        self.place += 1
        return self.rows[self.place - 1]

    def pass_row(self, word):
        if self.take_words() != [word]:
            raise NoText()

    def read_program(self):
        functions = []
        while not self.at_end():
            functions.append(self.read_function())
        if len(functions) > MOST_FUNCTIONS:
            raise NoText()
        return tuple(functions)

    def read_function(self):
        words = self.take_words()
        if words[0] != "fun" or not 2 <= len(words) <= 2 + MOST_PARAMS:
            raise NoText()
        names = [name_of(word) for word in words[1:]]
        block = self.read_block(0)
        if len(lines_of(block)) > MOST_LINES:
            raise NoText()
        return (names[0], tuple(names[1:]), block)

    # Outer is how many ifs the block lies in.
    def read_block(self, outer):
        steps = []
        words = self.take_words()
        while is_step_row(words):
            steps.append(step_of(words))
            words = self.take_words()
        return (tuple(steps), self.read_end(words, outer))

    def read_end(self, words, outer):
        if words[0] != "if":
            return plain_end_of(words)
        if len(words) != 2 or outer == MOST_IFS:
            raise NoText()
        atom = atom_of(words[1])
        first = self.read_block(outer + 1)
        self.pass_row("else")
        second = self.read_block(outer + 1)
        self.pass_row("end")
        return ("if", atom, first, second)


def read(text):
    if not isinstance(text, str):
        raise NoText()
    program = ProgramReader(text).read_program()
    check(program)
    return program
