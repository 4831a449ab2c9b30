import copy
import random
import unittest

from reusewise.anew import anew
from reusewise.errors import Misfit, NoValue, ReuseError, Unknown
from reusewise.frames import Frame
from reusewise.heap import Heap
from reusewise.holds import held, plain
from reusewise.machine import Machine
from reusewise.owners import owners
from reusewise.reader import read
from reusewise.slow import SlowHeap
from reusewise.sound import sound
from tests.helper import (
    LIBRARY, Loosener, PlainMachine, SoundMaker, Spoiler, Unpromised, heap_state, parts_in, some_owns,
)

KINDS = ((("nil", 0), ("cons", 2)), (("leaf", 1), ("bud", 0)))
OTHERS = (
    ("own", ("x",), (True,), ("give", "x")),
    ("lend", ("x",), (False,), ("hold", "h", "x", ("give", "h"))),
    ("mixed", ("x", "y", "z"), (True, False, True), ("drop", "z", ("give", "x"))),
    ("two", ("x", "y"), (True, True), ("let", "r", ("op", "minus", "x", "y"), ("drop", "x", ("drop", "y", ("give", "r"))))),
    ("none", (), (), ("let", "r", ("num", 7), ("give", "r"))),
    ("ever", ("x",), (True,), ("let", "r", ("call", "ever", ("x",)), ("give", "r"))),
)
GIVE_X = ("give", "x")
TEN = 10 ** 18


def let(deed, body, name="a"):
    return ("let", name, deed, body)


def machine(body, args, owns=None, steps=50, size=TEN, stretch=0):
    """A machine that begins a def with this body and, of x y z, as many params as there are arguments."""
    params = ("x", "y", "z")[:len(args)]
    owns = (True,) * len(args) if owns is None else owns
    code = (KINDS, (("f", params, owns, body), *OTHERS))
    return Machine(code, "f", args, steps, size, stretch)


class MachineTest(unittest.TestCase):
    def ends(self, answer, body, args, **how):
        for stretch in (0, 1, 5):
            one = machine(body, args, stretch=stretch, **how)
            self.assertEqual(one.result(), answer, body)
            self.assertEqual(one.end, answer)
            if answer[0] == "told":
                self.assertEqual((one.frames, one.heap.waits()), ([], []))

    def told(self, body, args, *parts, **how):
        self.ends(("told", list(parts)), body, args, **how)

    def fault(self, word, body, args, **how):
        self.ends(("fault", word), body, args, **how)

    def frame(self, one, at, body=None, held=None, lent=None, tokens=None, wants=""):
        found = one.frames[at]
        self.assertEqual(
            (found.body, found.held, found.lent, found.tokens, found.wants), (body, held or {}, lent or {}, tokens or {}, wants)
        )


class Frames(unittest.TestCase):
    def test_fields(self):
        body = ("give", "x")
        frame = Frame(body, "y")
        self.assertEqual(vars(frame), {"body": body, "wants": "y", "held": {}, "lent": {}, "tokens": {}})

    def test_the_dicts_are_its_own(self):
        one, other = Frame(("give", "x"), ""), Frame(("give", "x"), "")
        for name in ("held", "lent", "tokens"):
            getattr(one, name)["x"] = 1
            self.assertEqual(getattr(other, name), {})
        self.assertEqual([one.held, one.lent, one.tokens], [{"x": 1}] * 3)
        one.held["y"] = 2
        self.assertNotIn("y", one.lent)


class Begin(MachineTest):
    def test_two_frames_params_held(self):
        one = machine(GIVE_X, [["leaf", 1], [5]])
        self.assertEqual((len(one.frames), one.end), (2, None))
        self.assertTrue(all(isinstance(frame, Frame) for frame in one.frames))
        self.frame(one, 1, GIVE_X, {"x": ("box", 0), "y": 5})
        self.assertEqual((one.frames[0].held, one.frames[0].lent), ({}, {}))
        self.assertNotEqual(one.frames[0].wants, "")

    def test_two_frames_params_held_and_lent(self):
        one = machine(GIVE_X, [["leaf", 1], ["nil"], ["leaf", 2]], (True, False, False))
        self.frame(one, 1, GIVE_X, {"x": ("box", 0)}, {"y": "nil", "z": ("box", 1)})
        self.assertEqual((one.frames[0].held, one.frames[0].lent), ({"y": "nil", "z": ("box", 1)}, {}))
        self.assertEqual([row[3] for row in one.heap.boxes()], [1, 1])

    def test_the_arguments_boxes_in_their_order(self):
        args = [["cons", "leaf", 1, "cons", "leaf", 2, "nil"], [7], ["leaf", "leaf", "bud"]]
        one = machine(GIVE_X, args, (False, True, False))
        self.assertEqual(one.heap.boxes(), [
            (0, "leaf", [1], 1), (1, "leaf", [2], 1), (2, "cons", [("box", 1), "nil"], 1),
            (3, "cons", [("box", 0), ("box", 2)], 1), (4, "leaf", ["bud"], 1), (5, "leaf", [("box", 4)], 1),
        ])
        self.assertEqual(one.frames[0].held, {"x": ("box", 3), "z": ("box", 5)})
        self.assertEqual((one.heap.size, one.heap.fresh, one.heap.anew, one.heap.peak), (TEN, 6, 0, 6))

    def test_deep_arguments(self):
        for parts in (["cons"] * 700 + ["nil"] + [1] * 700, parts_in(range(700)), ["leaf"] * 700 + [1]):
            one = machine(GIVE_X, [parts])
            self.assertEqual(len(one.heap.boxes()), 700)
            self.assertEqual(one.result(), ("told", parts[:100]))
            self.assertEqual(one.heap.boxes(), [])

    def test_full_ahead_of_the_run(self):
        for size in range(3):
            for stretch in (0, 1):
                one = machine(GIVE_X, [["leaf", "leaf", 1], ["leaf", 1]], size=size, stretch=stretch)
                self.assertEqual((one.end, one.frames, one.heap.fresh), (("fault", "full"), [], size))
                self.assertIs(one.turn(), False)
                self.assertEqual(one.result(), ("fault", "full"))
        self.assertIsNone(machine(GIVE_X, [["leaf", "leaf", 1], ["leaf", 1]], size=3).end)
        self.assertIsNone(machine(GIVE_X, [["nil"], [4]], size=0).end)

    def test_a_slow_heap_just_where_stretch_is_not_nought(self):
        self.assertIs(type(Machine((KINDS, OTHERS), "own", [[1]], 5, 5).heap), Heap)
        self.assertIs(type(machine(GIVE_X, [[1]], stretch=0).heap), Heap)
        for stretch in (1, 2, TEN):
            self.assertIs(type(machine(GIVE_X, [[1]], stretch=stretch).heap), SlowHeap)

    def test_the_begin_is_no_step(self):
        self.told(GIVE_X, [[1]], 1, steps=0)

    def test_refused(self):
        code = (KINDS, (("f", ("x", "y"), (True, True), GIVE_X), *OTHERS))
        for name, args, refusal, fields in (
            ("nosuch", [], Unknown, {"name": "nosuch"}), ("", [[]], Unknown, {"name": ""}),
            ("f", [[1]], Misfit, {"name": "f"}), ("f", [[], [], []], Misfit, {"name": "f"}),
            ("f", [[1], []], NoValue, {}), ("f", [[True], [1]], NoValue, {}), ("f", [[1], ("nil",)], NoValue, {}),
            ("f", [["func own 0"], [1]], NoValue, {}), ("f", [["leaf", 1], [10 ** 30]], NoValue, {}),
        ):
            for size in (0, 5):
                with self.assertRaises(ReuseError) as caught:
                    Machine(code, name, args, 5, size)
                self.assertEqual((type(caught.exception), vars(caught.exception)), (refusal, fields))

    def test_what_is_handed_in_stays_and_may_be_changed_later(self):
        args = [["leaf", 1]]
        before = copy.deepcopy(args)
        one = machine(GIVE_X, args)
        self.assertEqual(args, before)
        args[0].clear()
        args.clear()
        self.assertEqual(one.result(), ("told", ["leaf", 1]))


class Turns(MachineTest):
    def turns(self, one, many):
        for _ in range(many):
            self.assertIs(one.turn(), True)

    def test_a_let_with_num_and_op(self):
        body = let(("num", -4), let(("op", "plus", "x", "a"), ("drop", "x", ("drop", "a", ("give", "b"))), "b"))
        one = machine(body, [[9]])
        self.turns(one, 1)
        self.frame(one, 1, body[3], {"x": 9, "a": -4})
        self.turns(one, 1)
        self.frame(one, 1, body[3][3], {"x": 9, "a": -4, "b": 5})
        self.turns(one, 3)
        self.assertEqual((len(one.frames), one.frames[0].wants), (1, ""))
        self.assertIs(one.turn(), False)
        self.assertEqual((one.end, one.frames), (("told", [5]), []))

    def test_each_drop_and_the_give_of_the_first_frame_is_a_turn(self):
        one = machine(("hold", "h", "z", ("give", "h")), [["leaf", 1], ["leaf", 2], ["leaf", 3]], (False,) * 3)
        self.turns(one, 1)
        self.assertEqual([row[3] for row in one.heap.boxes()], [1, 1, 2])
        self.turns(one, 1)
        self.assertEqual(len(one.frames), 1)
        held_names = one.frames[0].held
        self.assertEqual({name: held_names[name] for name in "xyz"}, {"x": ("box", 0), "y": ("box", 1), "z": ("box", 2)})
        for gone, left in (("x", "yz"), ("y", "z"), ("z", "")):
            self.turns(one, 1)
            self.assertNotIn(gone, one.frames[0].held)
            self.assertEqual([name for name in "xyz" if name in one.frames[0].held], list(left))
        self.assertEqual(one.heap.boxes(), [(2, "leaf", [3], 1)])
        self.assertIs(one.turn(), False)
        self.assertEqual((one.end, one.heap.boxes(), one.frames), (("told", ["leaf", 3]), [], []))

    def test_make(self):
        one = machine(let(("make", "cons", ("y", "x"), ""), ("give", "a")), [["leaf", 1], [5]])
        self.turns(one, 1)
        self.frame(one, 1, ("give", "a"), {"a": ("box", 1)})
        self.assertEqual(one.heap.boxes(), [(0, "leaf", [1], 1), (1, "cons", [5, ("box", 0)], 1)])
        self.told(let(("make", "nil", (), ""), ("drop", "x", ("give", "a"))), [[1]], "nil")

    def test_hold_and_drop(self):
        one = machine(("hold", "h", "x", ("drop", "x", ("give", "h"))), [["leaf", 1]])
        self.turns(one, 1)
        self.frame(one, 1, ("drop", "x", ("give", "h")), {"x": ("box", 0), "h": ("box", 0)})
        self.assertEqual(one.heap.boxes(), [(0, "leaf", [1], 2)])
        self.turns(one, 1)
        self.frame(one, 1, ("give", "h"), {"h": ("box", 0)})
        self.assertEqual(one.heap.boxes(), [(0, "leaf", [1], 1)])

    def test_a_call_with_names_used_up_and_lent(self):
        body = let(("call", "mixed", ("x", "y", "z")), ("drop", "y", ("give", "a")))
        one = machine(body, [["leaf", 1], ["leaf", 2], ["leaf", 3]])
        self.turns(one, 1)
        self.assertEqual(len(one.frames), 3)
        self.frame(one, 1, body[3], {"y": ("box", 1)}, wants="a")
        self.frame(one, 2, OTHERS[2][3], {"x": ("box", 0), "z": ("box", 2)}, {"y": ("box", 1)})
        self.assertEqual([row[3] for row in one.heap.boxes()], [1, 1, 1])
        self.turns(one, 2)
        self.assertEqual(len(one.frames), 2)
        self.frame(one, 1, body[3], {"y": ("box", 1), "a": ("box", 0)})

    def test_what_is_lent_may_be_lent_on(self):
        one = machine(let(("call", "lend", ("x",)), ("give", "a")), [["leaf", 1]], (False,))
        self.turns(one, 1)
        self.frame(one, 1, ("give", "a"), {}, {"x": ("box", 0)}, wants="a")
        self.frame(one, 2, OTHERS[1][3], {}, {"x": ("box", 0)})
        self.assertEqual(one.result(), ("told", ["leaf", 1]))
        self.assertEqual(one.heap.boxes(), [])

    def test_func_and_ask(self):
        body = let(("func", "two", ("x",)), let(("ask", "a", ("y",)), ("give", "b"), "b"))
        one = machine(body, [[9], [2]])
        self.turns(one, 1)
        self.frame(one, 1, body[3], {"y": 2, "a": ("box", 0)})
        self.assertEqual(one.heap.boxes(), [(0, "func two 1", [9], 1)])
        self.turns(one, 1)
        self.frame(one, 1, ("give", "b"), wants="b")
        self.frame(one, 2, OTHERS[3][3], {"x": 9, "y": 2})
        self.assertEqual((one.heap.boxes(), one.heap.keeping()), ([], []))
        self.assertEqual(one.result(), ("told", [7]))

    def test_an_ask_of_a_function_held_elsewhere(self):
        body = let(("func", "two", ("x",)), ("hold", "g", "a", let(("ask", "g", ("y",)), ("drop", "b", ("give", "a")), "b")))
        one = machine(body, [["leaf", 3], [2]])
        self.turns(one, 3)
        self.assertEqual(one.heap.boxes(), [(0, "leaf", [3], 2), (1, "func two 1", [("box", 0)], 1)])
        self.frame(one, 1, body[3][3][3], {"a": ("box", 1)}, wants="b")
        self.frame(one, 2, OTHERS[3][3], {"x": ("box", 0), "y": 2})

    def test_a_function_without_values_has_no_box(self):
        self.told(let(("func", "two", ()), let(("ask", "a", ("x", "y")), ("give", "b"), "b")), [[9], [2]], 7, size=0)
        self.told(let(("func", "none", ()), ("drop", "x", ("give", "a"))), [[9]], "func none 0", size=0)
        self.told(let(("func", "none", ()), let(("ask", "a", ()), ("drop", "x", ("give", "b")), "b")), [[9]], 7, size=0)

    def test_if(self):
        body = ("if", "x", ("give", "x"), ("drop", "x", let(("num", 8), ("give", "a"))))
        for number, answer in ((0, 8), (1, 1), (-1, -1)):
            self.told(body, [[number]], answer)
        one = machine(body, [[5]])
        self.turns(one, 1)
        self.frame(one, 1, ("give", "x"), {"x": 5})

    def arms(self, mode, token="", cons=None):
        cons = cons or ("drop", "b", ("give", "a"))
        return ("case", "x", (("cons", ("a", "b"), mode, token, cons), ("nil", (), mode, "", let(("num", 3), ("give", "a")))))

    def test_a_case_in_look_way(self):
        one = machine(self.arms("look"), [["cons", "leaf", 1, "leaf", 2]], (False,))
        self.turns(one, 1)
        self.frame(one, 1, ("drop", "b", ("give", "a")), {"a": ("box", 0), "b": ("box", 1)}, {"x": ("box", 2)})
        self.assertEqual([row[3] for row in one.heap.boxes()], [2, 2, 1])
        self.assertEqual(one.result(), ("told", ["leaf", 1]))
        self.assertEqual(one.heap.boxes(), [])
        self.told(self.arms("look"), [["nil"]], 3, owns=(False,))

    def test_a_case_in_look_way_of_what_is_held(self):
        one = machine(self.arms("look", cons=("drop", "x", ("drop", "b", ("give", "a")))), [["cons", "leaf", 1, 5]])
        self.turns(one, 1)
        self.assertEqual(one.frames[1].held, {"x": ("box", 1), "a": ("box", 0), "b": 5})
        self.assertEqual([row[3] for row in one.heap.boxes()], [2, 1])
        self.assertEqual(one.result(), ("told", ["leaf", 1]))

    def test_a_case_in_take_way(self):
        one = machine(self.arms("take"), [["cons", "leaf", 1, "leaf", 2]])
        self.turns(one, 1)
        self.frame(one, 1, ("drop", "b", ("give", "a")), {"a": ("box", 0), "b": ("box", 1)})
        self.assertEqual((one.heap.boxes(), one.heap.keeping()), ([(0, "leaf", [1], 1), (1, "leaf", [2], 1)], []))
        self.told(self.arms("take"), [["nil"]], 3)

    def test_a_case_in_take_way_of_what_others_hold(self):
        one = machine(("hold", "h", "x", self.arms("take", "t", ("drop", "h", ("drop", "b", ("loose", "t", ("give", "a")))))),
                      [["cons", "leaf", 1, 5]])
        self.turns(one, 2)
        self.assertEqual(one.heap.boxes(), [(0, "leaf", [1], 2), (1, "cons", [("box", 0), 5], 1)])
        self.assertEqual((one.heap.keeping(), one.frames[1].tokens), ([], {"t": None}))
        self.assertEqual(one.result(), ("told", ["leaf", 1]))

    def test_a_token_with_a_place(self):
        body = self.arms("take", "t", let(("make", "cons", ("b", "a"), "t"), ("give", "c"), "c"))
        one = machine(body, [["cons", 1, 2]], size=1)
        self.turns(one, 1)
        self.assertEqual((one.frames[1].tokens, one.heap.keeping(), one.heap.boxes()), ({"t": 0}, [0], []))
        self.turns(one, 1)
        self.frame(one, 1, ("give", "c"), {"c": ("box", 0)})
        self.assertEqual((one.heap.boxes(), one.heap.keeping()), ([(0, "cons", [2, 1], 1)], []))
        self.assertEqual((one.heap.fresh, one.heap.anew), (1, 1))
        self.assertEqual(one.result(), ("told", ["cons", 2, 1]))

    def test_a_token_without_a_place(self):
        body = ("hold", "h", "x", self.arms("take", "t", let(("make", "cons", ("b", "a"), "t"), ("drop", "h", ("give", "c")), "c")))
        one = machine(body, [["cons", 1, 2]])
        self.turns(one, 3)
        self.assertEqual((one.heap.fresh, one.heap.anew, one.frames[1].tokens), (2, 0, {}))
        self.assertEqual(one.frames[1].held, {"h": ("box", 0), "c": ("box", 1)})
        self.assertEqual(one.result(), ("told", ["cons", 2, 1]))

    def test_a_token_whose_place_was_given_up_for_want_of_room(self):
        body = self.arms("take", "t", let(("make", "leaf", ("a",), ""), ("drop", "c", let(
            ("make", "leaf", ("b",), "t"), ("give", "d"), "d")), "c"))
        one = machine(body, [["cons", 1, 2]], size=1)
        self.assertEqual(one.result(), ("told", ["leaf", 2]))
        self.assertEqual((one.heap.fresh, one.heap.anew), (3, 0))

    def test_loose(self):
        body = self.arms("take", "t", ("loose", "t", ("drop", "b", ("give", "a"))))
        one = machine(body, [["cons", 1, 2]])
        self.turns(one, 1)
        self.assertEqual(one.heap.keeping(), [0])
        self.turns(one, 1)
        self.assertEqual((one.heap.keeping(), one.frames[1].tokens), ([], {}))

    def test_a_token_at_an_arm_without_names(self):
        # Not let by, but it runs: the take of a tag keeps no place.
        body = ("case", "x", (("nil", (), "take", "t", ("loose", "t", let(("num", 3), ("give", "a")))), (
            "cons", ("a", "b"), "take", "", ("drop", "b", ("give", "a")))))
        one = machine(body, [["nil"]])
        self.turns(one, 1)
        self.assertEqual(one.frames[1].tokens, {"t": None})
        self.assertEqual(one.result(), ("told", [3]))

    def test_work_is_done_ahead_of_each_piece(self):
        body = ("drop", "x", let(("num", 1), let(("num", 2), ("drop", "a", ("give", "b")), "b")))
        one = machine(body, [parts_in(range(7))], stretch=2)
        waits = []
        for _ in range(4):
            self.turns(one, 1)
            waits.append((one.heap.waits(), len(one.heap.boxes())))
        self.assertEqual(waits, [([6], 7), ([4], 5), ([2], 3), ([0], 1)])
        self.assertEqual(one.result(), ("told", [2]))
        self.assertEqual((one.heap.waits(), one.heap.boxes()), ([], []))

    def test_all_that_waits_is_worked_off_behind_the_answer(self):
        one = machine(("drop", "x", ("give", "y")), [parts_in(range(50)), ["leaf", 1]], stretch=1)
        self.assertEqual(one.result(), ("told", ["leaf", 1]))
        self.assertEqual((one.heap.boxes(), one.heap.waits(), one.frames), ([], [], []))

    def test_a_hundred_parts_are_told(self):
        for parts in (parts_in(range(50)), parts_in(range(49)), ["leaf"] * 99 + [1], ["leaf"] * 100 + [1]):
            self.told(GIVE_X, [parts], *parts[:100])

    def test_shared_parts_are_told_as_often(self):
        code = anew(held(read(LIBRARY), owners(read(LIBRARY))))
        for size in (500, TEN):
            one = Machine(code, "tower", [[500], [1]], 1000, size)
            self.assertEqual(one.result(), ("told", ["cons"] * 100))
            self.assertEqual(one.heap.boxes(), [])


class Ends(MachineTest):
    def test_turn_and_result(self):
        one = machine(GIVE_X, [[4]])
        self.assertIsNone(one.end)
        self.assertIs(one.turn(), True)
        self.assertIs(one.turn(), False)
        state = heap_state(one.heap)
        for _ in range(3):
            self.assertIs(one.turn(), False)
            self.assertEqual(one.result(), ("told", [4]))
        self.assertEqual(heap_state(one.heap), state)

    def test_the_list_told_is_the_askers_own(self):
        one = machine(GIVE_X, [["leaf", 1]])
        one.result()[1].clear()
        self.assertEqual((one.result(), one.end), (("told", ["leaf", 1]), ("told", ["leaf", 1])))

    def test_behind_an_end_no_turn_does_anything(self):
        for body, args, size in (
            (let(("op", "over", "x", "x"), GIVE_X), [[0]], 9), (let(("make", "leaf", ("x",), ""), ("give", "a")), [[0]], 0),
            (("give", "zz"), [[0]], 9), (let(("call", "ever", ("x",)), ("give", "a")), [["leaf", 1]], 9),
        ):
            for stretch in (0, 1):
                one = machine(body, args, size=size, stretch=stretch)
                answer = one.result()
                frames = [(frame.body, dict(frame.held), frame.wants) for frame in one.frames]
                state = heap_state(one.heap)
                self.assertIs(one.turn(), False)
                self.assertEqual(one.result(), answer)
                self.assertEqual([(frame.body, dict(frame.held), frame.wants) for frame in one.frames], frames)
                self.assertEqual(heap_state(one.heap), state)

    def test_faults_of_the_plain_runner(self):
        self.fault("nought", let(("op", "over", "x", "x"), ("drop", "x", ("give", "a"))), [[0]])
        self.fault("great", let(("op", "times", "x", "x"), ("drop", "x", ("give", "a"))), [[10 ** 20]])
        for parts in (["nil"], ["leaf", 1]):
            self.fault("nonumber", let(("op", "plus", "x", "x"), ("drop", "x", ("give", "a"))), [parts])
            self.fault("nonumber", ("if", "x", GIVE_X, GIVE_X), [parts])
            self.fault("nofunc", let(("ask", "x", ()), ("give", "a")), [parts])
        arms = (("nil", (), "take", "", let(("num", 1), ("give", "a"))), ("cons", ("a", "b"), "take", "", ("drop", "b", ("give", "a"))))
        for parts in ([5], [0], ["bud"], ["leaf", 1]):
            self.fault("noshape", ("case", "x", arms), [parts])
        self.fault("noshape", let(("func", "two", ("x",)), ("case", "a", (arms[0][:4] + (let(("num", 1), ("give", "b"), "b"),), (
            "cons", ("c", "b"), "take", "", ("drop", "b", ("give", "c")))))), [[1]])
        self.fault("nofunc", let(("ask", "x", ()), ("give", "a")), [[5]])
        self.fault("nofunc", let(("func", "two", ("x",)), let(("ask", "a", ()), ("give", "b"), "b")), [[5]])
        self.fault("nofunc", let(("func", "none", ()), let(("ask", "a", ("x",)), ("give", "b"), "b")), [[5]])

    def test_steps_and_late(self):
        call = let(("call", "own", ("x",)), let(("call", "own", ("a",)), ("give", "b"), "b"))
        self.told(call, [[1]], 1, steps=2)
        self.told(call, [[1]], 1, steps=3)
        for steps in (0, 1):
            self.ends(("late", steps), call, [[1]], steps=steps)
        ask = let(("func", "own", ()), let(("ask", "a", ("x",)), ("give", "b"), "b"))
        self.told(ask, [[1]], 1, steps=1)
        self.ends(("late", 0), ask, [[1]], steps=0)
        self.fault("nofunc", let(("ask", "x", ()), ("give", "a")), [[1]], steps=0)
        self.ends(("late", 10000), let(("call", "ever", ("x",)), ("give", "a")), [[1]], steps=10000)

    def test_full(self):
        make = let(("make", "leaf", ("x",), ""), ("give", "a"))
        self.told(make, [["leaf", 1]], "leaf", "leaf", 1, size=2)
        self.fault("full", make, [["leaf", 1]], size=1)
        self.fault("full", let(("func", "own", ("x",)), ("give", "a")), [[1]], size=0)
        one = machine(make, [["leaf", 1]], size=1)
        one.result()
        self.assertEqual((one.heap.fresh, one.heap.anew, one.heap.peak), (1, 0, 1))
        self.told(("drop", "y", make), [["leaf", 1], parts_in([1])], "leaf", "leaf", 1, size=2)


class Gones(MachineTest):
    """What is not at hand, also in code that the checker does not let by."""

    def test_used_up(self):
        for body in (
            ("give", "zz"), ("drop", "x", GIVE_X), let(("make", "leaf", ("zz",), ""), ("give", "a")),
            let(("make", "cons", ("x", "x"), ""), ("give", "a")), let(("make", "cons", ("x", "zz"), ""), ("give", "a")),
            let(("func", "two", ("x", "x")), ("give", "a")), let(("func", "own", ("zz",)), ("give", "a")),
            let(("ask", "zz", ()), ("give", "a")), let(("ask", "x", ("x",)), ("give", "a")),
            let(("ask", "x", ("zz",)), ("give", "a")), let(("call", "own", ("zz",)), ("give", "a")),
            let(("call", "two", ("x", "x")), ("give", "a")), ("drop", "zz", GIVE_X),
            let(("make", "leaf", ("x",), ""), ("drop", "a", GIVE_X)),
            let(("call", "own", ("x",)), ("drop", "a", GIVE_X)),
        ):
            self.fault("gone", body, [["leaf", 1]])

    def test_used_up_where_it_is_only_lent(self):
        for body in (
            GIVE_X, ("drop", "x", let(("num", 1), ("give", "a"))), let(("make", "leaf", ("x",), ""), ("give", "a")),
            let(("func", "own", ("x",)), ("give", "a")), let(("ask", "x", ()), ("give", "a")),
            let(("call", "own", ("x",)), ("give", "a")), let(("num", 1), let(("ask", "a", ("x",)), ("give", "b"), "b")),
        ):
            self.fault("gone", body, [["leaf", 1]], owns=(False,))

    def test_looked_at_lent_or_held_anew(self):
        one = let(("num", 1), ("give", "a"))
        for body in (
            ("if", "x", one, one), ("case", "x", (("leaf", ("b",), "look", "", ("give", "b")), ("bud", (), "look", "", one))),
            ("case", "x", (("leaf", ("b",), "take", "", ("give", "b")), ("bud", (), "take", "", one))),
            let(("op", "plus", "x", "y"), ("give", "a")), let(("op", "plus", "y", "x"), ("give", "a")),
            let(("call", "lend", ("x",)), ("give", "a")), ("hold", "h", "x", ("give", "h")),
        ):
            self.fault("gone", ("drop", "x", body), [["leaf", 1], [2]])

    def test_lent_and_used_up_by_one_call(self):
        self.fault("gone", ("hold", "h", "x", let(("call", "mixed", ("x", "x", "h")), ("give", "a"))), [["leaf", 1]])
        self.fault("gone", ("hold", "h", "x", let(("call", "mixed", ("h", "x", "x")), ("give", "a"))), [["leaf", 1]])

    def test_tokens(self):
        self.fault("gone", ("loose", "t", GIVE_X), [[1]])
        self.fault("gone", ("loose", "", GIVE_X), [[1]])
        self.fault("gone", let(("make", "leaf", ("x",), "t"), ("give", "a")), [[1]])

        def arm(body):
            return ("case", "x", (("leaf", ("a",), "take", "t", body), ("bud", (), "take", "", let(("num", 1), ("give", "a")))))

        self.fault("gone", arm(("loose", "t", ("loose", "t", ("give", "a")))), [["leaf", 1]])
        self.fault("gone", arm(let(("make", "leaf", ("a",), "t"), ("loose", "t", ("give", "b")), "b")), [["leaf", 1]])
        self.fault("gone", arm(("loose", "t", let(("make", "leaf", ("a",), "t"), ("give", "b"), "b"))), [["leaf", 1]])
        self.fault("gone", arm(("loose", "u", ("give", "a"))), [["leaf", 1]])
        self.fault("gone", arm(let(("make", "leaf", ("a",), "u"), ("loose", "t", ("give", "b")), "b")), [["leaf", 1]])

    def test_it_goes_ahead_of_any_other_fault(self):
        self.fault("gone", let(("op", "over", "zz", "x"), GIVE_X), [["nil"]])
        self.fault("gone", let(("op", "over", "x", "zz"), GIVE_X), [["nil"]])
        self.fault("gone", let(("ask", "x", ("zz",)), GIVE_X), [[1]])
        self.fault("gone", let(("ask", "x", ("zz",)), GIVE_X), [[1]], steps=0)
        self.fault("gone", let(("call", "own", ("zz",)), GIVE_X), [[1]], steps=0)
        self.fault("gone", let(("call", "lend", ("zz",)), GIVE_X), [[1]], steps=0)
        self.fault("gone", let(("make", "cons", ("x", "zz"), ""), GIVE_X), [[1]], size=0)
        self.fault("gone", let(("make", "leaf", ("x",), "t"), GIVE_X), [[1]], size=0)

    def test_noshape_goes_ahead_of_a_take_arm_that_may_not_take(self):
        arms = (("leaf", ("b",), "take", "", ("give", "b")), ("bud", (), "take", "", let(("num", 1), ("give", "a"))))
        for parts in ([5], ["nil"], ["cons", 1, 2]):
            self.fault("noshape", ("case", "x", arms), [parts], owns=(False,))
        for parts in (["leaf", 1], ["bud"]):
            self.fault("gone", ("case", "x", arms), [parts], owns=(False,))
        self.fault("gone", ("drop", "x", ("case", "x", arms)), [[5]])

    def test_names_and_tokens_that_a_frame_has_when_it_ends_are_lost(self):
        one = machine(("hold", "h", "x", GIVE_X), [["leaf", 1]])
        self.assertEqual(one.result(), ("told", ["leaf", 1]))
        self.assertEqual(one.heap.boxes(), [(0, "leaf", [1], 1)])
        body = ("case", "x", (("leaf", ("a",), "take", "t", ("give", "a")), ("bud", (), "take", "", let(("num", 1), ("give", "a")))))
        one = machine(body, [["leaf", 1]])
        self.assertEqual(one.result(), ("told", [1]))
        self.assertEqual((one.heap.boxes(), one.heap.keeping()), ([], [0]))


class AgainstTheOther(unittest.TestCase):
    """Turn by turn against a machine that is put together from the document alone."""

    def held_against(self, code, name, args, steps, size, stretch):
        one = Machine(code, name, args, steps, size, stretch)
        other = PlainMachine(code, name, args, steps, size, stretch)
        while True:
            self.assertEqual(one.end, other.end)
            if one.end is None or one.end[0] == "told":
                self.same_state(one, other)
            self.assertEqual((one.heap.fresh, one.heap.anew, one.heap.peak), (other.heap.fresh, other.heap.anew, other.heap.peak))
            if one.end is not None:
                return one.end
            wanted = other.turn()
            self.assertIs(one.turn(), wanted)

    def same_state(self, one, other):
        self.assertEqual(heap_state(one.heap), other.heap.state())
        self.assertEqual(len(one.frames), len(other.frames))
        for found, wanted in zip(one.frames[1:], other.frames[1:]):
            self.assertEqual(vars(found), wanted)
        if one.frames:
            first = other.frames[0]
            self.assertEqual({**one.frames[0].held, **first["held"]}, one.frames[0].held)
            self.assertEqual(len(one.frames[0].held), len(first["held"]) + ("answer" in first))
            self.assertEqual((one.frames[0].lent, one.frames[0].wants == ""), ({}, first["wants"] == ""))

    def test_made_code_and_other_code_let_by(self):
        met = {}
        for seed in range(500):
            chance = random.Random(seed)
            maker = SoundMaker(seed, depth=5, shapely=seed % 2 == 0)
            code = anew(held(maker.program, some_owns(maker.program, chance)))
            if seed % 3 == 0:
                code = Loosener(seed).other(code)
            name, args = maker.begin()
            for stretch in (0, 1, 3):
                size = chance.choice((0, 1, 2, 3, 5, 9, TEN))
                end = self.held_against(code, name, args, chance.choice((0, 2, 30)), size, stretch)
                met[end[-1] if end[0] == "fault" else end[0]] = True
        self.assertLessEqual({"told", "late", "full", "nonumber", "noshape", "nofunc"}, set(met))

    def test_spoilt_code(self):
        met = {}
        for seed in range(1500):
            chance = random.Random(seed)
            maker = SoundMaker(seed % 400, depth=4, shapely=seed % 2 == 0)
            code = Spoiler(seed).spoilt(anew(held(maker.program, some_owns(maker.program, chance))))
            try:
                sound(plain(code))
                name, args = maker.begin()
                end = self.held_against(code, name, args, 30, chance.choice((1, 3, TEN)), seed % 3)
            except (ReuseError, Unpromised) as stop:
                met[type(stop).__name__] = met.get(type(stop).__name__, 0) + 1
            else:
                word = end[-1] if end[0] == "fault" else end[0]
                met[word] = met.get(word, 0) + 1
        self.assertGreater(met["gone"], 100)
        self.assertGreater(met["told"], 100)
        self.assertGreater(met["noshape"], 0)


class Depth(MachineTest):
    def test_calls_and_values_thousands_deep(self):
        code = anew(held(read(LIBRARY), owners(read(LIBRARY))))
        for stretch in (0, 1, 1000):
            one = Machine(code, "counted", [[10000]], 10000, 0, stretch)
            self.assertEqual(one.result(), ("told", [10000]))
            one = Machine(code, "upto", [[10000]], 10000, 10000, stretch)
            self.assertEqual(one.result()[1][:4], ["cons", 10000, "cons", 9999])
            self.assertEqual((one.heap.boxes(), one.heap.peak), ([], 10000))
            one = Machine(code, "heap", [[10000], [1]], 10000, 10000, stretch)
            self.assertEqual(one.result(), ("told", ["wrap"] * 100))
            self.assertEqual(one.heap.boxes(), [])

    def test_bodies_thousands_deep(self):
        deep = GIVE_X
        for _ in range(3000):
            deep = ("hold", "h", "x", ("drop", "x", ("hold", "x", "h", ("drop", "h", deep))))
        self.told(deep, [["leaf", 1]], "leaf", 1)


if __name__ == "__main__":
    unittest.main()
