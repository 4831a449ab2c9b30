"""The promise over the whole, [3], turn by turn over many programs, sizes and stretches."""

import random
import unittest

from reusewise.anew import anew
from reusewise.checker import checked, tight
from reusewise.holds import held, plain
from reusewise.machine import Machine
from reusewise.owners import owners
from reusewise.reader import read
from reusewise.runner import run
from tests.helper import LIBRARY, Loosener, SoundMaker, parts_in, some_owns, used_ahead

TEN = 10 ** 18
RUNS = (
    ("sorted", [parts_in([5, 2, 9, 1, 2])]), ("both", [parts_in([1, 2])]), ("addall", [[3], parts_in([1, 2, 3])]),
    ("keptbelow", [[3], parts_in([1, 5, 2, 7])]), ("sumup", [parts_in([1, 2, 3])]), ("lastof", [parts_in([1, 2, 3])]),
    ("turned", [parts_in([1, 2, 3]), ["nil"]]), ("rewrap", [["wrap", 0]]), ("rewrap", [["wrap", 1]]),
    ("twicewrap", [["wrap", "tip"]]), ("inner", [["wrap", "wrap", 3]]), ("mapped", [[1], parts_in([1])]),
    ("joined", [parts_in([1, 2]), [7]]), ("flat", [["fork", "tip", 3, "fork", "tip", 4, "tip"]]),
    ("tower", [[6], ["wrap", 1]]), ("heap", [[6], [1]]), ("total", [parts_in([1, 2, 3])]), ("upto", [[6]]),
    ("put", [[4], ["fork", "tip", 3, "fork", "tip", 5, "tip"]]), ("forever", [["wrap", 1]]),
)


def numbers_of(values):
    return [value[1] for value in values if isinstance(value, tuple)]


def reached(machine, values):
    """The numbers of the boxes that can be come to from these values."""
    parts = {row[0]: row[2] for row in machine.heap.boxes()}
    left, found = numbers_of(values), set()
    while left:
        at = left.pop()
        if at not in found:
            found.add(at)
            left += numbers_of(parts[at])
    return found


def names_held(machine):
    return [value for frame in machine.frames for value in frame.held.values()]


def makes_a_box(body):
    return body[0] == "let" and body[2][0] in ("make", "func") and len(body[2][2]) > 0


class PromiseTest(unittest.TestCase):
    def watched(self, code, name, args, steps, size, stretch):
        """Runs to the end and holds each turn against (b), (c), (e); then the end against (a), (d)."""
        machine = Machine(code, name, args, steps, size, stretch)
        is_tight = tight(code)
        while machine.end is None:
            self.counts_are_holders(machine)
            body = machine.frames[-1].body
            many = len(reached(machine, names_held(machine)))
            if is_tight:
                self.each_is_used_ahead(machine)
            if stretch == 0:
                self.assertEqual(many, len(machine.heap.boxes()))
            machine.turn()
            self.assertEqual(machine.end == ("fault", "full"), makes_a_box(body) and many == size, (name, body))
            self.assertNotEqual(machine.end, ("fault", "gone"))
        self.nothing_is_left(machine)
        self.assertIn(machine.end, (run(plain(code), name, args, steps), ("fault", "full")))
        return machine.end

    def counts_are_holders(self, machine):
        boxes = machine.heap.boxes()
        holders = numbers_of(names_held(machine) + [part for row in boxes for part in row[2]])
        for at, _, _, count in boxes:
            self.assertEqual(count, holders.count(at))
        self.assertLessEqual(set(holders), {row[0] for row in boxes})
        self.assertLessEqual(len(boxes) + len(machine.heap.keeping()), machine.heap.size)

    def nothing_is_left(self, machine):
        if machine.end[0] == "told":
            heap = machine.heap
            self.assertEqual((heap.boxes(), heap.keeping(), heap.waits(), machine.frames), ([], [], [], []))

    def each_is_used_ahead(self, machine):
        lent = []
        for above, frame in zip(machine.frames[1:], machine.frames):
            for name, value in frame.held.items():
                if frame is not machine.frames[0]:
                    self.assertTrue(used_ahead(frame.body, name) or value in above.lent.values(), name)
                    lent += [] if used_ahead(frame.body, name) else [value]
                else:
                    lent.append(value)
        running = machine.frames[-1]
        if running.body[0] not in ("hold", "drop", "loose") and len(machine.frames) > 1:
            for name in running.held:
                self.assertTrue(used_ahead(running.body, name), name)
            if machine.stretch == 0:
                self.boxes_are_come_to(machine, lent)

    def boxes_are_come_to(self, machine, lent):
        used = [
            value for frame in machine.frames[1:] for name, value in frame.held.items() if used_ahead(frame.body, name)
        ]
        self.assertEqual(reached(machine, used + lent), {row[0] for row in machine.heap.boxes()})

    def with_each_size(self, code, name, args, steps, stretches=(0, 1, 4)):
        self.assertIs(checked(code), True)
        answer = run(plain(code), name, args, steps)
        for stretch in stretches:
            self.assertEqual(self.watched(code, name, args, steps, TEN, stretch), answer)
        for size in (0, 1, 2, 3, 5, 8):
            ends = [self.watched(code, name, args, steps, size, stretch) for stretch in stretches]
            self.assertEqual(ends, ends[:1] * len(stretches))


class OverMany(PromiseTest):
    def test_made_code_of_the_library(self):
        program = read(LIBRARY)
        code = anew(held(program, owners(program)))
        for name, args in RUNS:
            for steps in (0, 3, 60):
                self.with_each_size(code, name, args, steps)

    def test_code_with_other_owns_and_without_tokens(self):
        program = read(LIBRARY)
        for seed in range(3):
            code = held(program, some_owns(program, random.Random(seed)))
            for name, args in RUNS:
                self.with_each_size(code, name, args, 40, (0, 2))
                self.with_each_size(anew(code), name, args, 40, (0, 2))

    def test_made_code_of_made_programs(self):
        for seed in range(250):
            maker = SoundMaker(seed, depth=5, shapely=seed % 2 == 0)
            name, args = maker.begin()
            self.with_each_size(anew(held(maker.program, owners(maker.program))), name, args, 12)

    def test_other_code_that_is_let_by(self):
        for seed in range(250):
            chance = random.Random(seed)
            maker = SoundMaker(seed, depth=4, shapely=seed % 2 == 0)
            code = Loosener(seed).other(anew(held(maker.program, some_owns(maker.program, chance))))
            name, args = maker.begin()
            self.with_each_size(code, name, args, 8, (0, 1))


class PlacesUsedAnew(unittest.TestCase):
    def test_a_row_held_alone_and_mapped_needs_no_place_more(self):
        program = read(LIBRARY)
        code = anew(held(program, owners(program)))
        for many in (0, 1, 2, 20, 149):
            for stretch in (0, 1, 7):
                machine = Machine(code, "inc", [parts_in(range(many))], 1000, many, stretch)
                self.assertEqual(machine.result(), ("told", parts_in(range(1, many + 1))[:100]))
                self.assertEqual((machine.heap.fresh, machine.heap.anew, machine.heap.peak), (many, many, many))
                machine = Machine(code, "turned", [parts_in(range(many)), ["nil"]], 1000, many, stretch)
                self.assertEqual(machine.result()[1], parts_in(range(many - 1, -1, -1))[:100])
                self.assertEqual((machine.heap.fresh, machine.heap.anew, machine.heap.peak), (many, many, many))

    def test_a_row_that_others_hold_is_not_used_anew(self):
        text = LIBRARY + "\ndef keptalso xs = let ys call inc xs ; let r make cons xs ys ; give r"
        program = read(text)
        code = anew(held(program, owners(program)))
        machine = Machine(code, "keptalso", [parts_in([1, 2])], 100, TEN)
        self.assertEqual(machine.result(), ("told", ["cons"] + parts_in([1, 2]) + parts_in([2, 3])))
        self.assertEqual((machine.heap.fresh, machine.heap.anew), (5, 0))

    def test_the_next_making_at_the_token_uses_the_place(self):
        program = read(LIBRARY)
        code = anew(held(program, owners(program)))
        machine = Machine(code, "twicewrap", [["wrap", 1]], 100, 2)
        self.assertEqual(machine.result(), ("told", ["wrap", "wrap", 1]))
        self.assertEqual((machine.heap.fresh, machine.heap.anew), (2, 1))


if __name__ == "__main__":
    unittest.main()
