"""Reads the text of a program."""

from reusewise.errors import NoText
from reusewise.words import FIGURES, NAMING_DEEDS, OPS, is_name, is_number

MOST_NAMES = 9
MOST_ARMS = 20


# The words of one row, gone through from the left. The first that does not fit refuses the row.
class Words:
    def __init__(self, row, words):
        self.row = row
        self.words = words
        self.at = 0

    def insist(self, fits):
        if not fits:
            raise NoText(self.row)

    def all_read(self):
        return self.at == len(self.words)

    def next_word(self):
        self.insist(not self.all_read())
        self.at = self.at + 1
        return self.words[self.at - 1]

    def next_name(self):
        word = self.next_word()
        self.insist(is_name(word))
        return word

    def next_number(self):
        word = self.next_word()
        self.insist(is_number(word))
        return int(word)

    def next_size(self):
        word = self.next_word()
        self.insist(len(word) == 1 and word in FIGURES)
        return int(word)

    def names_until(self, stop):
        names = []
        while not self.passed(stop):
            self.insist(len(names) < MOST_NAMES)
            names.append(self.next_name())
        return tuple(names)

    def passed(self, word):
        if self.all_read() or self.words[self.at] != word:
            return False
        self.at = self.at + 1
        return True


# A body that has others within it is kept as one of these three until they are read. Each is told
# of a body within it by `filled`, and gives its own body, or None while it wants another one.
class BegunLet:
    def __init__(self, words):
        self.binds = words.next_name()
        self.deed = read_deed(words)

    def filled(self, words, body):
        return ("let", self.binds, self.deed, body)


class BegunIf:
    def __init__(self, words):
        self.looked = words.next_name()
        self.first = None

    def filled(self, words, body):
        if self.first is None:
            words.insist(words.passed("else"))
            self.first = body
            return None
        return ("if", self.looked, self.first, body)


class BegunCase:
    def __init__(self, words):
        self.looked = words.next_name()
        self.arms = []
        self.head = read_head(words)

    def filled(self, words, body):
        self.arms.append(self.head + (body,))
        if words.passed("end"):
            return ("case", self.looked, tuple(self.arms))
        words.insist(len(self.arms) < MOST_ARMS)
        self.head = read_head(words)
        return None


def read(text):
    if not isinstance(text, str):
        raise NoText(0)
    kinds = []
    defs = []
    # The text without signs has no row, where a split would give an empty one.
    rows = text.split("\n") if text != "" else []
    for row, line in enumerate(rows):
        words = Words(row, line.split(" "))
        if words.passed("def"):
            defs.append(read_def(words))
        else:
            words.insist(words.passed("kind") and len(defs) == 0)
            kinds.append(read_kind(words))
    return (tuple(kinds), tuple(defs))


def read_kind(words):
    pairs = [read_pair(words)]
    while not words.all_read():
        pairs.append(read_pair(words))
    return tuple(pairs)


def read_pair(words):
    tag = words.next_name()
    return (tag, words.next_size())


def read_def(words):
    name = words.next_name()
    params = words.names_until("=")
    body = read_body(words)
    words.insist(words.all_read())
    return (name, params, body)


# The begun bodies are kept in a list, the outermost first, so that no depth fells the reader, as
# calls within calls would.
def read_body(words):
    begun = []
    body = begin_body(words, begun)
    while len(begun) > 0:
        if body is None:
            body = begin_body(words, begun)
        else:
            body = begun[-1].filled(words, body)
            if body is not None:
                begun.pop()
    return body


# Gives the body where it is whole at once, else None, and puts it with those that are begun.
def begin_body(words, begun):
    if words.passed("give"):
        return ("give", words.next_name())
    if words.passed("let"):
        begun.append(BegunLet(words))
    elif words.passed("if"):
        begun.append(BegunIf(words))
    else:
        words.insist(words.passed("case"))
        begun.append(BegunCase(words))
    return None


def read_head(words):
    tag = words.next_name()
    return (tag, words.names_until(":"))


def read_deed(words):
    word = words.next_word()
    if word == "num":
        return ("num", words.next_number())
    if word in OPS:
        a = words.next_name()
        return ("op", word, a, words.next_name())
    words.insist(word in NAMING_DEEDS)
    name = words.next_name()
    return (word, name, words.names_until(";"))
