"""A machine that runs held code on a heap."""

from reusewise.errors import Fault, Full
from reusewise.frames import called_frame, first_frame, looked_at, used, used_token, used_values
from reusewise.heap import Heap
from reusewise.runner import arm_of, asked_def, begun_with, by_name, func_tag
from reusewise.slow import SlowHeap
from reusewise.sums import reckoned
from reusewise.uses import names_of, used_up
from reusewise.values import first_parts, is_whole
from reusewise.walk import worked_out

MOST_TOLD = 100
# No name of a program has a point in it, so the first frame has no other name like it.
ANSWER = "answer."


class Machine:
    def __init__(self, code, name, args, steps, size, stretch=0):
        self.defs = by_name(code[1])
        values = begun_with(code[0], self.defs, name, args)
        self.owns = {}
        for one in code[1]:
            self.owns[one[0]] = one[2]
        self.steps = steps
        self.done = 0
        self.stretch = stretch
        self.heap = Heap(size) if stretch == 0 else SlowHeap(size)
        self.frames = []
        self.end = None
        self.begin(self.defs[name], values)

    def begin(self, one, values):
        try:
            boxed = [boxed_value(self.heap, value) for value in values]
        except Full:
            self.end = ("fault", "full")
            return
        self.frames.append(first_frame(one, boxed, ANSWER))
        self.frames.append(called_frame(one, boxed))

    def result(self):
        while self.turn():
            pass
        # A copy, for what is done to the list told may change nothing here.
        return ("told", list(self.end[1])) if self.end[0] == "told" else self.end

    def turn(self):
        if self.end is not None:
            return False
        if self.stretch != 0:
            self.heap.work(self.stretch)
        try:
            self.do_piece(self.frames[-1])
        except Fault as fault:
            self.end = ("fault", fault.word)
        except Full:
            self.end = ("fault", "full")
        return self.end is None

    def do_piece(self, frame):
        body = frame.body
        if body[0] == "give":
            self.give(frame, body[1])
        elif body[0] == "let":
            self.let(frame, body)
        elif body[0] == "if":
            self.choose(frame, body)
        elif body[0] == "case":
            self.go_into_arm(frame, body[1], looked_at(frame, body[1]), body[2])
        else:
            self.change_holders(frame, body)
            frame.body = body[-1]

    def change_holders(self, frame, body):
        if body[0] == "hold":
            value = looked_at(frame, body[2])
            self.heap.hold(value)
            frame.held[body[1]] = value
        elif body[0] == "drop":
            self.heap.let_go(used(frame, body[1]))
        else:
            self.heap.loose(used_token(frame, body[1]))

    def give(self, frame, name):
        value = used(frame, name)
        self.frames.pop()
        if len(self.frames) == 0:
            self.tell(value)
        else:
            beneath = self.frames[-1]
            beneath.held[beneath.wants] = value
            beneath.wants = ""

    def tell(self, value):
        parts = first_parts(value, MOST_TOLD, lambda one: self.heap.look(one))
        self.heap.let_go(value)
        # As often as boxes were ever made: so none waits any more.
        self.heap.work(self.heap.fresh + self.heap.anew)
        self.end = ("told", parts)

    def choose(self, frame, body):
        value = looked_at(frame, body[1])
        if not is_whole(value):
            raise Fault("nonumber")
        frame.body = body[2] if value != 0 else body[3]

    def go_into_arm(self, frame, name, value, arms):
        shape = self.heap.look(value)
        arm = arm_of(arms, shape[0])
        if arm[2] == "take":
            self.take_apart(used(frame, name), frame, arm[3])
        else:
            for part in shape[1]:
                self.heap.hold(part)
        for part_name, part in zip(arm[1], shape[1]):
            frame.held[part_name] = part
        frame.body = arm[4]

    def take_apart(self, value, frame, token):
        taken = self.heap.take(value, token != "")
        if token != "":
            frame.tokens[token] = taken[1]

    def let(self, frame, body):
        deed = body[2]
        values = used_values(frame, names_of(deed), used_up(deed, self.owns))
        if deed[0] == "call":
            self.call(frame, body, deed[1], values)
        elif deed[0] == "ask":
            self.ask(frame, body, values[0], values[1:])
        else:
            frame.held[body[1]] = self.outcome(frame, deed, values)
            frame.body = body[3]

    def outcome(self, frame, deed, values):
        if deed[0] == "num":
            return deed[1]
        if deed[0] == "op":
            return reckoned(deed[1], values[0], values[1])
        if deed[0] == "func":
            return self.heap.make(func_tag(deed[1], len(values)), values)
        kept = None if deed[3] == "" else used_token(frame, deed[3])
        return self.heap.make(deed[1], values, kept)

    def call(self, frame, body, name, values):
        if self.done == self.steps:
            self.end = ("late", self.steps)
            return
        self.done = self.done + 1
        frame.wants = body[1]
        frame.body = body[3]
        self.frames.append(called_frame(self.defs[name], values))

    def ask(self, frame, body, asked, values):
        shape = self.heap.look(asked)
        name = asked_def(self.defs, shape[0], len(shape[1]), len(values))
        self.call(frame, body, name, self.heap.take(asked)[0] + values)


# The value as the heap has it: a box behind its parts, the first part's boxes first.
def boxed_value(heap, value):
    return worked_out(value, lambda one: begun_box(heap, one))


def begun_box(heap, value):
    if is_whole(value):
        return ([], lambda results: value)
    return (list(value[1]), lambda results: heap.make(value[0], results))
