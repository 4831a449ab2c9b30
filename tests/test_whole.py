import copy
import unittest

from reusewise.anew import anew
from reusewise.checker import checked, tight
from reusewise.errors import Lacking, Misfit, NoText, NoValue, ReuseError, Twice, Unknown
from reusewise.holds import held, plain
from reusewise.machine import Machine
from reusewise.owners import owners
from reusewise.reader import read
from reusewise.runner import run
from reusewise.whole import compiled, need, ran
from reusewise.writer import shown
from tests.helper import LIBRARY, SoundMaker, parts_in

TEN = 10 ** 18
FULL = ("fault", "full")


class Compiled(unittest.TestCase):
    def as_told(self, text):
        program = read(text)
        code = compiled(text)
        self.assertEqual(code, anew(held(program, owners(program))))
        self.assertEqual(plain(code), program)
        self.assertIs(checked(code), True)
        self.assertIs(tight(code), True)
        self.assertEqual(compiled(text), code)

    def test_texts(self):
        self.assertEqual(compiled(""), ((), ()))
        self.as_told("kind nil 0")
        self.as_told("def keep x = give x")
        self.as_told(LIBRARY)

    def test_made_programs(self):
        for seed in range(100):
            self.as_told(shown(SoundMaker(seed, depth=5, shapely=seed % 2 == 0).program))

    def test_as_many_rows_words_and_depth_as_may_be(self):
        names = [a + b for a in "abcdefgh" for b in "klmnopqrst"]
        lets = "".join(f"let {name} make cons x x ; " for name in names[:33])
        rows = [f"def {name} x = {lets}give x" for name in names[:59]]
        self.assertEqual(len(rows[0].split(" ")), 237)
        text = "\n".join(["kind nil 0 cons 2"] + rows)
        self.as_told(text)
        self.assertEqual(ran(text, names[58], [["nil"]], 10, 40), ("told", ["nil"]))
        deep = "".join(f"let {name} num 1 " for name in names[:20]) + "if x " * 40 + "give x" + " else give x" * 40
        self.as_told(f"def f x = {deep}")
        cases = "".join(f"case {one} nil : give x cons {other} {other}x : " for one, other in zip(["x"] + names, names[:15]))
        self.as_told(f"kind nil 0 cons 2\ndef f x = {cases}let z make cons {names[14]} x ; give z" + " end" * 15)


class Ran(unittest.TestCase):
    def test_the_machines_answer(self):
        for name, args, answer in (
            ("inc", [parts_in([1, 2])], parts_in([2, 3])), ("sorted", [parts_in([3, 1, 2])], parts_in([1, 2, 3])),
            ("addall", [[10], parts_in([1, 2])], parts_in([11, 12])), ("sumup", [parts_in([1, 2, 3])], [6]),
        ):
            for stretch in (0, 1, 9, TEN):
                self.assertEqual(ran(LIBRARY, name, args, 100, TEN, stretch), ("told", answer))
                self.assertEqual(ran(LIBRARY, name, args, 100, 50, stretch=stretch), ("told", answer))
            self.assertEqual(ran(LIBRARY, name, args, 100, 50), ("told", answer))
            self.assertEqual(ran(LIBRARY, name, args, 1, TEN), ("late", 1))
            self.assertEqual(ran(LIBRARY, name, args, 100, 1), FULL)

    def test_what_is_handed_in_stays_and_the_list_told_is_new(self):
        args = [parts_in([1, 2])]
        before = copy.deepcopy(args)
        first = ran(LIBRARY, "inc", args, 100, 10)
        first[1].clear()
        self.assertEqual(ran(LIBRARY, "inc", args, 100, 10), ("told", parts_in([2, 3])))
        need(LIBRARY, "inc", args, 100)
        self.assertEqual(args, before)

    def test_made_programs(self):
        for seed in range(150):
            maker = SoundMaker(seed, depth=5, shapely=seed % 2 == 0)
            name, args = maker.begin()
            text = shown(maker.program)
            for stretch in (0, 2):
                self.assertEqual(ran(text, name, args, 20, TEN, stretch), run(maker.program, name, args, 20))
                size = seed % 5
                wanted = Machine(compiled(text), name, args, 20, size, stretch).result()
                self.assertEqual(ran(text, name, args, 20, size, stretch), wanted)


class Need(unittest.TestCase):
    def as_told(self, text, name, args, steps):
        least = need(text, name, args, steps)
        self.assertIs(type(least), int)
        self.assertEqual(need(text, name, args, steps), least)
        answer = run(read(text), name, args, steps)
        for stretch in (0, 1, 3):
            self.assertEqual(ran(text, name, args, steps, least, stretch), answer)
            self.assertEqual(ran(text, name, args, steps, least + 1, stretch), answer)
            for size in range(max(0, least - 3), least):
                self.assertEqual(ran(text, name, args, steps, size, stretch), FULL)
        return least

    def test_rows(self):
        for many in (0, 1, 5, 60):
            self.assertEqual(self.as_told(LIBRARY, "inc", [parts_in(range(many))], 100), many)
            self.assertEqual(self.as_told(LIBRARY, "turned", [parts_in(range(many)), ["nil"]], 100), many)
            self.assertEqual(self.as_told(LIBRARY, "upto", [[many]], 100), many)

    def test_runs_that_need_none(self):
        self.assertEqual(self.as_told(LIBRARY, "counted", [[20]], 100), 0)
        self.assertEqual(self.as_told(LIBRARY, "forever", [["nil"]], 100), 0)

    def test_runs_that_end_late_or_in_a_fault(self):
        self.assertEqual(self.as_told(LIBRARY, "forever", [["wrap", "wrap", 1]], 20), 2)
        self.assertEqual(self.as_told(LIBRARY, "heap", [[50], [1]], 20), 21)
        self.assertEqual(self.as_told(LIBRARY, "total", [["cons", "nil", "nil"]], 20), 1)

    def test_arguments_alone(self):
        self.assertEqual(self.as_told(LIBRARY, "inner", [["wrap", "wrap", "wrap", 1]], 0), 3)

    def test_many(self):
        for name, args in (
            ("sorted", [parts_in([5, 2, 9, 1, 2])]), ("both", [parts_in([1, 2])]), ("addall", [[3], parts_in([1, 2])]),
            ("keptbelow", [[3], parts_in([1, 5, 2, 7])]), ("tower", [[6], [1]]), ("twicewrap", [["wrap", 1]]),
        ):
            for steps in (0, 2, 100):
                self.as_told(LIBRARY, name, args, steps)
        for seed in range(150):
            maker = SoundMaker(seed, depth=5, shapely=seed % 2 == 0)
            name, args = maker.begin()
            self.as_told(shown(maker.program), name, args, 15)


class Refused(unittest.TestCase):
    def refused(self, refusal, fields, text, name="f", args=((1,),)):
        args = [list(parts) if isinstance(parts, tuple) else parts for parts in args]
        calls = [lambda: ran(text, name, args, 5, 0), lambda: ran(text, name, args, 5, 9, 1), lambda: need(text, name, args, 5)]
        if refusal in (NoText, Twice, Lacking):
            calls.append(lambda: compiled(text))
        for call in calls:
            with self.assertRaises(ReuseError) as caught:
                call()
            self.assertEqual((type(caught.exception), vars(caught.exception)), (refusal, fields))

    def test_as_read_sound_and_the_runner_refuse(self):
        for text in (None, 5, ["def f x = give x"], b"def f x = give x"):
            self.refused(NoText, {"row": 0}, text)
        self.refused(NoText, {"row": 1}, "kind nil 0\ndef f x = give")
        self.refused(Twice, {"name": "f"}, "def f x = give x\ndef f x = give x")
        self.refused(Lacking, {"name": "x", "tags": ["t"]}, "kind s 0 t 0\ndef f x = case x s : give x end")
        self.refused(Unknown, {"name": "y"}, "def f x = give y")
        self.refused(Misfit, {"name": "f"}, "def f x = let y call f ; give y")
        self.refused(Unknown, {"name": "nosuch"}, "def f x = give x", "nosuch")
        self.refused(Misfit, {"name": "f"}, "def f x = give x", "f", [])
        self.refused(NoValue, {}, "def f x = give x", "f", [["nil"]])
        self.refused(NoValue, {}, "kind nil 0\ndef f x y = give x", "f", [["nil"], 5])

    def test_in_this_order(self):
        self.refused(NoText, {"row": 1}, "def f x x = give y\ndef", "nosuch", [[]])
        self.refused(Twice, {"name": "x"}, "def f x x = give y", "nosuch", [[]])
        self.refused(Unknown, {"name": "nosuch"}, "def f x = give x", "nosuch", [[], []])
        self.refused(Misfit, {"name": "f"}, "def f x = give x", "f", [[], []])

    def test_compiled_is_refused_as_sound_refuses(self):
        for text, refusal, name in (("def f x = give y", Unknown, "y"), ("def f x = let y call f ; give y", Misfit, "f")):
            with self.assertRaises(ReuseError) as caught:
                compiled(text)
            self.assertEqual((type(caught.exception), caught.exception.name), (refusal, name))


if __name__ == "__main__":
    unittest.main()
