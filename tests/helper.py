"""What several tests need: a writer and a judge of texts that share nothing with the program,
and a maker of programs of every form, sound or not."""

import random
import re

LANGUAGE_WORDS = (
    "def kind give let if else case end num plus minus times over rest less same make call func ask"
).split()
OP_WORDS = "plus minus times over rest less same".split()
NAMING_WORDS = "make call func ask".split()

NAME = r"(?!(?:" + "|".join(LANGUAGE_WORDS) + r")(?![a-z]))[a-z]{1,12}(?![a-z])"
NAMES = rf"(?: {NAME}){{0,9}}"
NUMBER = r"(?:0|-?[1-9][0-9]{0,29})(?![0-9])"
KIND_ROW = re.compile(rf"kind(?: {NAME} [0-9])+")
DEF_ROW = re.compile(rf"def {NAME}{NAMES} = B")
DEED = re.compile(
    rf"(?<![a-z])(?:num {NUMBER}|(?:{'|'.join(OP_WORDS)}) {NAME} {NAME}"
    rf"|(?:{'|'.join(NAMING_WORDS)}) {NAME}{NAMES} ;)"
)
BODY = re.compile(
    rf"(?<![a-z])(?:give {NAME}|let {NAME} D B|if {NAME} B else B"
    rf"|case {NAME}(?: {NAME}{NAMES} : B){{1,20}} end(?![a-z]))"
)
SIGNS_OF_ROWS = re.compile(r"[a-z0-9=:; -]*")


def is_def_row(row):
    if not SIGNS_OF_ROWS.fullmatch(row):
        return False
    row = DEED.sub("D", row)
    shorter = BODY.sub("B", row)
    while shorter != row:
        row = shorter
        shorter = BODY.sub("B", row)
    return DEF_ROW.fullmatch(row) is not None


def bad_row(text):
    """The number of the first row that is none, or None where the text is a program's."""
    defs_begun = False
    for at, row in enumerate(text.split("\n") if text else []):
        if is_def_row(row):
            defs_begun = True
        elif defs_begun or not KIND_ROW.fullmatch(row):
            return at
    return None


def told_deed(deed):
    if deed[0] == "num":
        return f"num {deed[1]}"
    if deed[0] == "op":
        return " ".join(deed[1:])
    return " ".join((deed[0], deed[1], *deed[2], ";"))


def told_body(body):
    if body[0] == "give":
        return f"give {body[1]}"
    if body[0] == "let":
        return f"let {body[1]} {told_deed(body[2])} {told_body(body[3])}"
    if body[0] == "if":
        return f"if {body[1]} {told_body(body[2])} else {told_body(body[3])}"
    arms = [" ".join((tag, *names, ":", told_body(within))) for tag, names, within in body[2]]
    return " ".join(("case", body[1], *arms, "end"))


def told(program):
    kinds, defs = program
    rows = [" ".join(("kind", *(f"{tag} {size}" for tag, size in kind))) for kind in kinds]
    rows += [" ".join(("def", name, *params, "=", told_body(body))) for name, params, body in defs]
    return "\n".join(rows)


class Maker:
    """Makes programs of every form, the same ones for the same seed."""

    def __init__(self, seed):
        self.chance = random.Random(seed)

    def name(self):
        length = self.chance.choice((1, 1, 2, 3, 12))
        word = "".join(self.chance.choice("abcdefghijklmnopqrstuvwxyz") for _ in range(length))
        return self.name() if word in LANGUAGE_WORDS else word

    def names(self):
        return tuple(self.name() for _ in range(self.chance.choice((0, 0, 1, 2, 3, 9))))

    def deed(self):
        word = self.chance.choice(["num", *OP_WORDS, *NAMING_WORDS])
        if word == "num":
            most = self.chance.choice((0, 9, 10 ** 12, 10 ** 30 - 1))
            return ("num", self.chance.choice((most, -most, self.chance.randint(-most, most))))
        if word in OP_WORDS:
            return ("op", word, self.name(), self.name())
        return (word, self.name(), self.names())

    def body(self, depth):
        word = self.chance.choice(("give", "let", "let", "if", "case")) if depth else "give"
        if word == "give":
            return ("give", self.name())
        if word == "let":
            return ("let", self.name(), self.deed(), self.body(depth - 1))
        if word == "if":
            return ("if", self.name(), self.body(depth - 1), self.body(depth - 1))
        many = self.chance.choice((1, 1, 2, 3))
        arms = tuple((self.name(), self.names(), self.body(depth - 1)) for _ in range(many))
        return ("case", self.name(), arms)

    def kind(self):
        return tuple((self.name(), self.chance.randint(0, 9)) for _ in range(self.chance.randint(1, 4)))

    def program(self, depth=4):
        kinds = tuple(self.kind() for _ in range(self.chance.randint(0, 3)))
        many = self.chance.randint(0, 3)
        return (kinds, tuple((self.name(), self.names(), self.body(depth)) for _ in range(many)))
