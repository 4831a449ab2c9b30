import copy
import unittest

from reusewise.owners import owners, reasons
from reusewise.reader import read
from tests.helper import LIBRARY, SoundMaker, all_bodies, handed_defs, used_ahead

KINDS = "kind nil 0 cons 2\nkind leaf 1 bud 0\nkind big 9"


def has_reason(program, name, k, reason):
    """Whether the param k of the def has this reason; of a called one only that the call is there."""
    one = [one for one in program[1] if one[0] == name][0]
    param, bodies = one[1][k], list(all_bodies(one[2]))
    deeds = [body[2] for body in bodies if body[0] == "let"]
    if reason == ("given",):
        return ("give", param) in bodies
    if reason == ("put",):
        return any(deed[0] in ("make", "func", "ask") and param in deed[2] for deed in deeds)
    if reason == ("asked",):
        return any(deed[0] == "ask" and deed[1] == param for deed in deeds)
    if reason == ("handed",):
        return name in handed_defs(program)
    if reason == ("anew",):
        return any(can_use_anew(param, arm) for body in bodies if body[0] == "case" and body[1] == param for arm in body[2])
    return any(
        deed[0] == "call" and deed[1] == reason[1] and deed[2][reason[2]:reason[2] + 1] == (param,) for deed in deeds
    )


def can_use_anew(param, arm):
    if not arm[1] or used_ahead(arm[2], param):
        return False
    deeds = [body[2] for body in all_bodies(arm[2]) if body[0] == "let"]
    return any(deed[0] == "make" and len(deed[2]) == len(arm[1]) for deed in deeds)


OWN_REASONS = [("given",), ("put",), ("asked",), ("handed",), ("anew",)]


def fewest(program):
    """The held params, found by asking all again and again till none comes to them."""
    params = [(one[0], k) for one in program[1] for k in range(len(one[1]))]
    found = {one for one in params if any(has_reason(program, *one, reason) for reason in OWN_REASONS)}
    while True:
        more = {one for one in params if any(has_reason(program, *one, ("called", *other)) for other in found)}
        if more <= found:
            return found
        found |= more


class OwnersTest(unittest.TestCase):
    def as_told(self, program):
        before = copy.deepcopy(program)
        rows = reasons(program)
        self.assertIs(type(rows), list)
        held = fewest(program)
        self.assertEqual(sorted(row[:2] for row in rows), sorted(held))
        for at, row in enumerate(rows):
            self.assertEqual((type(row), len(row), type(row[2])), (tuple, 3, tuple))
            self.assertTrue(has_reason(program, *row), row)
            if row[2][0] == "called":
                self.assertEqual(len(row[2]), 3)
                self.assertIn(row[2][1:], [other[:2] for other in rows[:at]])
            else:
                self.assertIn(row[2], OWN_REASONS)
        wanted = {one[0]: tuple((one[0], k) in held for k in range(len(one[1]))) for one in program[1]}
        found = owners(program)
        self.assertEqual(list(found.items()), list(wanted.items()))
        self.assertEqual((reasons(program), owners(program), program), (rows, found, before))
        rows.clear()
        found.clear()
        self.assertEqual(list(owners(program).items()), list(wanted.items()))
        return reasons(program)

    def rows(self, text):
        return self.as_told(read(f"{KINDS}\n{text}"))

    def test_no_defs(self):
        self.assertEqual(reasons(((), ())), [])
        self.assertEqual(owners(((), ())), {})

    def test_given(self):
        self.assertEqual(self.rows("def f x y = give x"), [("f", 0, ("given",))])
        self.assertEqual(self.rows("def f x y = if x let a num 1 give a else give y"), [("f", 1, ("given",))])

    def test_put(self):
        self.assertEqual(self.rows("def f x y = let a make leaf y ; give a"), [("f", 1, ("put",))])
        self.assertEqual(self.rows("def f x y = let a func g y ; give a\ndef g a b = give a")[0], ("f", 1, ("put",)))
        self.assertIn(("f", 1, ("put",)), self.rows("def f x y = let a num 1 let b ask a y ; give b"))

    def test_asked(self):
        self.assertEqual(self.rows("def f x y = let a ask y ; give a"), [("f", 1, ("asked",))])

    def test_handed(self):
        rows = self.rows("def f x y = let a num 1 give a\ndef g = let a func f ; give a")
        self.assertEqual(rows, [("f", 0, ("handed",)), ("f", 1, ("handed",))])

    def test_anew(self):
        self.assertEqual(
            self.rows("def f x = case x leaf a : let b make leaf a ; give b bud : let b num 1 give b end"),
            [("f", 0, ("anew",))],
        )

    def test_anew_with_the_make_at_any_depth(self):
        for within in (
            "let c num 1 let b make leaf c ; give b", "if a give a else let b make leaf a ; give b",
            "case a bud : give a leaf c : let b make leaf c ; give b end",
            "case a nil : give a cons c d : if c let b make leaf c ; give a else give c end",
        ):
            self.assertEqual(self.rows(f"def f x = case x leaf a : {within} bud : let b num 1 give b end"), [("f", 0, ("anew",))])

    def test_no_reason(self):
        for text in (
            "let a plus x x give a", "if x let a num 1 give a else let a num 2 give a", "let a num 1 give a",
            "case x leaf a : give a bud : let b num 1 give b end",
            "case x leaf a : let b make cons a a ; give b bud : let b num 1 give b end",
            "case x leaf a : let b make nil ; give b bud : let b make bud ; give b end",
            "case x leaf a : let b make leaf a ; if x give b else give a bud : let b num 1 give b end",
            "case x leaf a : let b plus x a let c make leaf b ; give c bud : let b num 1 give b end",
            "case x leaf a : give a bud : let b num 1 let c make leaf b ; give c end",
            "let b num 1 let c make leaf b ; case x leaf a : give c bud : give c end",
        ):
            self.assertEqual(self.rows(f"def f x = {text}"), [], text)

    def test_anew_of_a_case_within_a_case_of_the_same(self):
        text = "case x leaf a : case x leaf c : let b make leaf c ; give b bud : give a end bud : let c num 1 give c end"
        self.assertEqual(self.rows(f"def f x = {text}"), [("f", 0, ("anew",))])

    def test_called(self):
        rows = self.rows("def f x y = let a call g y ; give a\ndef g x = give x")
        self.assertEqual(rows, [("g", 0, ("given",)), ("f", 1, ("called", "g", 0))])
        self.assertEqual(self.rows("def f x = let a call g x ; give a\ndef g x = let a num 1 give a"), [])

    def test_a_call_that_hands_a_param_at_several_places(self):
        rows = self.rows("def f x = let a call g x x x ; give a\ndef g x y z = give y")
        self.assertEqual(rows, [("g", 1, ("given",)), ("f", 0, ("called", "g", 1))])

    def test_a_chain_over_many_defs(self):
        names = [a + b for a in "abcde" for b in "klmnopqrst"]
        defs = [f"def {name} x y = let r call {other} y x ; give r" for name, other in zip(names, names[1:])]
        rows = self.rows("\n".join(defs + [f"def {names[-1]} x y = give y"]))
        self.assertEqual(len(rows), 50)
        self.assertEqual([row[0] for row in rows], names[::-1])

    def test_round_about(self):
        self.assertEqual(self.rows("def f x = let r call g x ; give r\ndef g x = let r call f x ; give r"), [])
        rows = self.rows(
            "def f x y = let r call g y x ; give r\ndef g x y = let r call h y x ; give r\n"
            "def h x y = if y let r call f x y ; give r else give y"
        )
        self.assertEqual({row[:2] for row in rows}, {("h", 1), ("g", 0), ("f", 1)})
        rows = self.rows("def f x y = if x let r call f y x ; give r else give y")
        self.assertEqual({row[:2] for row in rows}, {("f", 0), ("f", 1)})

    def test_names_that_are_no_params_have_no_reason(self):
        self.assertEqual(self.rows("def f x = let y num 1 let z make leaf y ; give z"), [])
        self.assertEqual(self.rows("def f x = let a num 1 give a\ndef g y = give y"), [("g", 0, ("given",))])

    def test_the_library(self):
        rows = self.as_told(read(LIBRARY))
        self.assertIn(("inc", 0, ("anew",)), rows)
        self.assertNotIn("total", [row[0] for row in rows])

    def test_made_programs(self):
        for seed in range(400):
            self.as_told(SoundMaker(seed, depth=4, many=6).program)

    def test_depth(self):
        deep = ("give", "x")
        for _ in range(3000):
            deep = ("if", "y", ("give", "y"), ("let", "a", ("num", 1), deep))
        self.assertEqual(owners(((), (("f", ("x", "y", "z"), deep),))), {"f": (True, True, False)})


if __name__ == "__main__":
    unittest.main()
