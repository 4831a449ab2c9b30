"""The plain runner, which knows nothing of memory."""

from reusewise.errors import Fault, Misfit, Unknown
from reusewise.sums import reckoned
from reusewise.values import grown, is_whole, parts_of


def run(program, name, args, steps):
    defs = by_name(program[1])
    values = begun_with(program[0], defs, name, args)
    running = Run(defs, steps)
    running.begin_def(name, values)
    try:
        while running.end is None:
            running.go_on()
    except Fault as fault:
        return ("fault", fault.word)
    return running.end


def by_name(defs):
    found = {}
    for one in defs:
        found[one[0]] = one
    return found


# The values that a run begins with, or the refusal of it.
def begun_with(kinds, defs, name, args):
    if name not in defs:
        raise Unknown(name)
    if len(args) != len(defs[name][1]):
        raise Misfit(name)
    return [grown(kinds, parts) for parts in args]


def func_tag(name, many):
    return f"func {name} {many}"


# The def of a function value that is asked with so many values more.
def asked_def(defs, tag, had, more):
    words = tag.split(" ")
    # No tag of a shape has a blank.
    if len(words) != 3 or had + more != len(defs[words[1]][1]):
        raise Fault("nofunc")
    return words[1]


def arm_of(arms, tag):
    for arm in arms:
        if arm[0] == tag:
            return arm
    raise Fault("noshape")


# What goes on behind a call, and the name that it wants bound to the answer.
class Waiting:
    def __init__(self, wants, body, names):
        self.wants = wants
        self.body = body
        self.names = names


# Calls within calls wait in a list, so that no depth fells the run.
class Run:
    def __init__(self, defs, steps):
        self.defs = defs
        self.steps = steps
        self.done = 0
        self.waiting = []
        self.body = None
        self.names = {}
        self.end = None

    def begin_def(self, name, values):
        one = self.defs[name]
        self.body = one[2]
        self.names = dict(zip(one[1], values))

    def go_on(self):
        body = self.body
        if body[0] == "let":
            self.let(body[1], body[2], body[3])
        elif body[0] == "if":
            self.choose(body, self.names[body[1]])
        elif body[0] == "case":
            self.take_arm(body[2], self.names[body[1]])
        else:
            self.give(self.names[body[1]])

    def give(self, value):
        if len(self.waiting) == 0:
            self.end = ("told", parts_of(value))
        else:
            last = self.waiting.pop()
            self.body = last.body
            self.names = last.names
            self.names[last.wants] = value

    def choose(self, body, value):
        if not is_whole(value):
            raise Fault("nonumber")
        self.body = body[2] if value != 0 else body[3]

    def take_arm(self, arms, value):
        # A number goes by a tag that no arm has.
        shape = ("", ()) if is_whole(value) else value
        arm = arm_of(arms, shape[0])
        for name, part in zip(arm[1], shape[1]):
            self.names[name] = part
        self.body = arm[2]

    def let(self, wants, deed, body):
        if deed[0] == "call":
            self.call(Waiting(wants, body, self.names), deed[1], self.valued(deed[2]))
        elif deed[0] == "ask":
            self.ask(Waiting(wants, body, self.names), self.names[deed[1]], self.valued(deed[2]))
        else:
            self.names[wants] = self.outcome(deed)
            self.body = body

    def valued(self, names):
        return [self.names[name] for name in names]

    def outcome(self, deed):
        if deed[0] == "num":
            return deed[1]
        if deed[0] == "op":
            return reckoned(deed[1], self.names[deed[2]], self.names[deed[3]])
        tag = deed[1] if deed[0] == "make" else func_tag(deed[1], len(deed[2]))
        return (tag, tuple(self.valued(deed[2])))

    def call(self, behind, name, values):
        if self.done == self.steps:
            self.end = ("late", self.steps)
            return
        self.done = self.done + 1
        self.waiting.append(behind)
        self.begin_def(name, values)

    def ask(self, behind, asked, values):
        if is_whole(asked):
            raise Fault("nofunc")
        name = asked_def(self.defs, asked[0], len(asked[1]), len(values))
        self.call(behind, name, list(asked[1]) + values)
