import copy
import unittest

from reusewise.errors import Misfit, NoValue, ReuseError, Unknown
from reusewise.reader import read
from reusewise.runner import run
from tests.helper import LIBRARY, SoundMaker, parts_in, plain_answer

KINDS = "kind nil 0 cons 2\nkind leaf 1 bud 0\nkind big 9"
OTHERS = (
    "def one x = give x\ndef two x y = let r minus x y give r\ndef none = let x num 7 give x\n"
    "def fault x = let z num 0 let r over x z give r"
)


def answer(body, args=(), steps=100, params="x y"):
    """The answer of a def with this body, with arguments for as many of the params as there are."""
    params = " ".join(params.split()[:len(args)])
    program = read(f"{KINDS}\ndef f {params}{' ' if params else ''}= {body}\n{OTHERS}")
    return run(program, "f", [list(parts) for parts in args], steps)


class RunnerTest(unittest.TestCase):
    def told(self, body, args, *parts):
        self.assertEqual(answer(body, args), ("told", list(parts)), body)

    def fault(self, body, args, word):
        self.assertEqual(answer(body, args), ("fault", word), body)


class Pieces(RunnerTest):
    def test_give(self):
        self.told("give x", [[5]], 5)
        self.told("give y", [[5], ["cons", 1, "nil"]], "cons", 1, "nil")

    def test_num_and_op(self):
        self.told("let a num -3 give a", [], -3)
        for word, result in (
            ("plus", 9), ("minus", 5), ("times", 14), ("over", 3), ("rest", 1), ("less", 0), ("same", 0)
        ):
            self.told(f"let a {word} x y give a", [[7], [2]], result)
        self.told("let a less y x give a", [[7], [2]], 1)
        self.told("let a same x x give a", [[7]], 1)

    def test_faults_of_ops(self):
        self.fault("let a over x y give a", [[1], [0]], "nought")
        self.fault("let a rest x y give a", [[1], [0]], "nought")
        self.fault("let a plus x y give a", [[1], ["nil"]], "nonumber")
        self.fault("let a same x y give a", [["nil"], ["nil"]], "nonumber")
        self.fault("let a times x x give a", [[10 ** 15]], "great")
        self.fault("let a func one ; let b plus a x give b", [[1]], "nonumber")

    def test_make(self):
        self.told("let a make nil ; give a", [], "nil")
        self.told("let a make cons x y ; give a", [[1], ["nil"]], "cons", 1, "nil")
        self.told("let a make cons y x ; give a", [[1], ["nil"]], "cons", "nil", 1)
        self.told("let a make cons x x ; give a", [["leaf", 4]], "cons", "leaf", 4, "leaf", 4)
        self.told("let a make big x y x y x y x y x ; give a", [[1], [2]], "big", 1, 2, 1, 2, 1, 2, 1, 2, 1)

    def test_call(self):
        self.told("let a call two x y ; give a", [[7], [2]], 5)
        self.told("let a call two y x ; give a", [[7], [2]], -5)
        self.told("let a call none ; give a", [], 7)
        self.told("let a call two x y ; let b call one x ; let c plus a b give c", [[7], [2]], 12)

    def test_names_of_the_caller_stay(self):
        self.told("let r num 1 let z call two x y ; let w make cons r x ; give w", [[7], [2]], "cons", 1, 7)

    def test_if(self):
        for number in (1, -1, 2, 10 ** 29):
            self.told("if x let a num 1 give a else let a num 2 give a", [[number]], 1)
        self.told("if x let a num 1 give a else let a num 2 give a", [[0]], 2)
        self.fault("if x give x else give x", [["nil"]], "nonumber")
        self.fault("if x give x else give x", [["leaf", 1]], "nonumber")
        self.fault("let a func one ; if a give a else give a", [], "nonumber")

    def test_case(self):
        body = "case x cons a b : let c make cons b a ; give c nil : give y end"
        self.told(body, [["nil"], [9]], 9)
        self.told(body, [["cons", 1, 2], [9]], "cons", 2, 1)
        self.told("case x big a b c d e f g h i : let r make big i h g f e d c b a ; give r end",
                  [["big", 1, 2, 3, 4, 5, 6, 7, 8, 9]], "big", 9, 8, 7, 6, 5, 4, 3, 2, 1)

    def test_a_case_that_finds_no_arm(self):
        body = "case x cons a b : give a nil : give x end"
        for parts in ([0], [5], ["leaf", 1], ["bud"]):
            self.fault(body, [parts], "noshape")
        self.fault("let g func one ; case g cons a b : give a nil : give g end", [], "noshape")
        self.fault("let n num 1 let g func one n ; case g leaf a : give a bud : give g end", [], "noshape")

    def test_functions_with_none_some_and_all_of_their_values(self):
        self.told("let g func two ; let a ask g x y ; give a", [[7], [2]], 5)
        self.told("let g func two y ; let a ask g x ; give a", [[7], [2]], -5)
        self.told("let g func two x y ; let a ask g ; give a", [[7], [2]], 5)
        self.told("let g func none ; let a ask g ; give a", [], 7)
        self.told("let g func two x ; let a ask g y ; let b ask g a ; let c make cons a b ; give c", [[7], [2]], "cons", 5, 2)

    def test_functions_handed_on(self):
        self.told("let g func two x ; let w make leaf g ; case w leaf h : let a ask h y ; give a bud : give x end",
                  [[7], [2]], 5)
        self.told("let g func one ; let h func one g ; let a ask h ; let b ask a x ; give b", [[7]], 7)

    def test_functions_told(self):
        self.told("let g func two ; give g", [], "func two 0")
        self.told("let g func two x y ; let w make cons g x ; give w", [[7], ["leaf", 2]],
                  "cons", "func two 2", 7, "leaf", 2, 7)

    def test_functions_asked_with_too_few_and_too_many(self):
        for body in (
            "let g func two ; let a ask g x ; give a", "let g func two ; let a ask g ; give a",
            "let g func two ; let a ask g x x x ; give a", "let g func two x ; let a ask g ; give a",
            "let g func two x ; let a ask g x x ; give a", "let g func two x x ; let a ask g x ; give a",
            "let g func none ; let a ask g x ; give a",
        ):
            self.fault(body, [[7]], "nofunc")

    def test_what_is_no_function_asked(self):
        for parts in ([0], [5], ["nil"], ["leaf", 1], ["cons", 1, 2]):
            self.fault("let a ask x ; give a", [parts], "nofunc")
            self.fault("let a ask x x ; give a", [parts], "nofunc")

    def test_the_first_fault_of_several(self):
        self.fault("let z num 0 let a over x z let b plus z y give b", [[1], ["nil"]], "nought")
        self.fault("let z num 0 let b plus z y let a over x z give b", [[1], ["nil"]], "nonumber")
        self.fault("let a call fault x ; let b ask x ; give b", [[1]], "nought")
        self.fault("let b ask x ; let a call fault x ; give b", [[1]], "nofunc")
        self.fault("case x nil : give x cons a b : let z plus a a give z end", [[1]], "noshape")

    def test_a_fault_on_a_way_not_gone_is_none(self):
        self.told("if x let z num 0 let a over x z give a else give x", [[0]], 0)


class Steps(RunnerTest):
    def test_just_enough_one_more_one_fewer(self):
        program = read(LIBRARY)
        for many in (0, 1, 2, 10):
            self.assertEqual(run(program, "counted", [[many]], many), ("told", [many]))
            self.assertEqual(run(program, "counted", [[many]], many + 1), ("told", [many]))
            if many:
                self.assertEqual(run(program, "counted", [[many]], many - 1), ("late", many - 1))
        self.assertEqual(run(program, "forever", [[1]], 0), ("late", 0))

    def test_an_ask_is_a_step_and_so_is_each_call(self):
        body = "let g func two x ; let a ask g y ; let b call one a ; let h func none ; let c ask h ; give b"
        self.assertEqual(answer(body, [[7], [2]], 3), ("told", [5]))
        for steps in (0, 1, 2):
            self.assertEqual(answer(body, [[7], [2]], steps), ("late", steps))

    def test_other_pieces_are_none(self):
        body = "let a make leaf x ; let g func one ; case a leaf b : if b give g else give a bud : give a end"
        self.assertEqual(answer(body, [[7]], 0), ("told", ["func one 0"]))

    def test_nofunc_goes_ahead_of_late(self):
        self.assertEqual(answer("let a ask x ; give a", [[7]], 0), ("fault", "nofunc"))
        self.assertEqual(answer("let g func two ; let a ask g x ; give a", [[7]], 0), ("fault", "nofunc"))
        self.assertEqual(answer("let g func one ; let a ask g x ; give a", [[7]], 0), ("late", 0))
        self.assertEqual(answer("let b call one x ; let a ask x ; give a", [[7]], 1), ("fault", "nofunc"))

    def test_the_first_of_fault_and_late(self):
        self.assertEqual(answer("let a call fault x ; give a", [[7]], 0), ("late", 0))
        self.assertEqual(answer("let a call fault x ; give a", [[7]], 1), ("fault", "nought"))

    def test_ten_thousand_calls_one_within_another(self):
        program = read(LIBRARY)
        self.assertEqual(run(program, "counted", [[10000]], 10000), ("told", [10000]))
        self.assertEqual(run(program, "forever", [[1]], 10000), ("late", 10000))
        self.assertEqual(run(program, "upto", [[10000]], 10000)[1][:4], ["cons", 10000, "cons", 9999])

    def test_values_thousands_deep(self):
        program = read(LIBRARY)
        self.assertEqual(run(program, "heap", [[10000], [1]], 10000), ("told", ["wrap"] * 100))
        lets = "".join(f"let {a}{b} make leaf {c} ; " for a, b, c in zip("a" * 25, "abcdefghijklmnopqrstuvwxy", [
            "x"] + ["a" + b for b in "abcdefghijklmnopqrstuvwx"]))
        text = f"{KINDS}\ndef f n x = if n let o num 1 let m minus n o {lets}let r call f m ay ; give r else give x"
        self.assertEqual(run(read(text), "f", [[10000], [1]], 10000), ("told", ["leaf"] * 100))

    def test_deep_values_are_taken_apart(self):
        text = LIBRARY + "\ndef there n = let xs call upto n ; let s call total xs ; give s"
        self.assertEqual(run(read(text), "there", [[4000]], 10000), ("told", [4000 * 4001 // 2]))


class Told(RunnerTest):
    def test_a_hundred_parts_and_more(self):
        program = read(LIBRARY)
        for many in (0, 1, 49, 50, 51, 80):
            parts = parts_in(range(many, 0, -1))
            self.assertEqual(run(program, "upto", [[many]], 1000), ("told", parts[:100]))
        self.told("give x", [["cons"] * 99 + ["nil"] + [1] * 99], *["cons"] * 99, "nil")
        hundred = ["cons"] * 49 + ["leaf"] + [0] * 50
        self.assertEqual(len(hundred), 100)
        self.told("give x", [hundred], *hundred)

    def test_shared_parts(self):
        program = read(LIBRARY)
        self.assertEqual(run(program, "tower", [[500], [1]], 1000), ("told", ["cons"] * 100))
        self.assertEqual(run(program, "tower", [[2], [1]], 1000), ("told", ["cons", "cons", 1, 1, "cons", 1, 1]))

    def test_the_list_is_the_askers_own(self):
        program = read(LIBRARY)
        args = [parts_in([1, 2])]
        first = run(program, "inc", args, 100)
        first[1].clear()
        self.assertEqual(run(program, "inc", args, 100), ("told", parts_in([2, 3])))
        given = run(program, "turned", [["nil"], args[0]], 100)
        given[1].append(1)
        self.assertEqual(args, [parts_in([1, 2])])


class Refused(RunnerTest):
    def refused(self, refusal, name, args, fields):
        program = read(LIBRARY)
        before, handed = copy.deepcopy(program), copy.deepcopy(args)
        for _ in range(2):
            with self.assertRaises(ReuseError) as caught:
                run(program, name, args, 10)
            self.assertEqual((type(caught.exception), vars(caught.exception)), (refusal, fields))
        self.assertEqual((program, args), (before, handed))

    def test_no_such_def(self):
        for name in ("", "nosuch", "cons", "Inc", "inc "):
            self.refused(Unknown, name, [["nil"]], {"name": name})

    def test_another_number_of_arguments(self):
        self.refused(Misfit, "inc", [], {"name": "inc"})
        self.refused(Misfit, "inc", [["nil"], ["nil"]], {"name": "inc"})
        self.refused(Misfit, "added", [[1]], {"name": "added"})

    def test_what_is_no_value(self):
        for parts in ([], ["cons"], [1, 2], ["func added 0"], [True], [10 ** 30], None, ("nil",), ["zzz"], "nil", [[1]]):
            self.refused(NoValue, "inc", [parts], {})
            self.refused(NoValue, "added", [[1], parts], {})
            self.refused(NoValue, "added", [parts, [1]], {})

    def test_the_order_among_them(self):
        self.refused(Unknown, "nosuch", [[], []], {"name": "nosuch"})
        self.refused(Misfit, "inc", [[], []], {"name": "inc"})
        self.refused(Misfit, "added", [[True]], {"name": "added"})


class AgainstTheOther(unittest.TestCase):
    """Made programs, held against a runner that shares nothing with this one."""

    def test_made_programs(self):
        met = {}
        for seed in range(1200):
            maker = SoundMaker(seed, depth=5)
            name, args = maker.begin()
            for steps in (0, 3, 60):
                before = copy.deepcopy((maker.program, args))
                found = run(maker.program, name, args, steps)
                self.assertEqual(found, plain_answer(maker.program, name, args, steps))
                self.assertEqual(run(maker.program, name, args, steps), found)
                self.assertEqual((maker.program, args), before)
                word = found[1] if found[0] == "fault" else found[0]
                met[word] = met.get(word, 0) + 1
        for word in ("told", "late", "nonumber", "noshape", "nofunc", "nought", "great"):
            self.assertGreater(met.get(word, 0), 10, met)

    def test_the_library(self):
        program = read(LIBRARY)
        for name, args in (
            ("sorted", [parts_in([5, 2, 9, 1, 2])]), ("both", [parts_in([1, 2])]), ("addall", [[3], parts_in([1, 2])]),
            ("keptbelow", [[3], parts_in([1, 5, 2, 7])]), ("sumup", [parts_in([1, 2, 3])]),
            ("lastof", [parts_in([1, 2, 3])]), ("turned", [parts_in([1, 2, 3]), ["nil"]]), ("rewrap", [["wrap", 0]]),
            ("twicewrap", [["wrap", "tip"]]), ("inner", [["wrap", "wrap", 3]]), ("mapped", [[1], parts_in([1])]),
            ("joined", [parts_in([1, 2]), [7]]), ("flat", [["fork", "tip", 3, "fork", "tip", 4, "tip"]]),
        ):
            for steps in range(0, 60, 7):
                self.assertEqual(run(program, name, args, steps), plain_answer(program, name, args, steps), name)


if __name__ == "__main__":
    unittest.main()
