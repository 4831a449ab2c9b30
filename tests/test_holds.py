import copy
import random
import unittest
from collections import Counter

from reusewise.holds import held, plain
from reusewise.reader import read
from reusewise.uses import bound
from tests.helper import LIBRARY, SoundMaker, all_bodies, deed_names, handed_defs, some_owns, used_ahead

KINDS = "kind nil 0 cons 2\nkind leaf 1 bud 0\nkind big 9"
OTHERS = "def own x = give x\ndef lend x = give x\ndef mixed x y z = give x\ndef free = let x num 1 give x"
OWNS = {"own": (True,), "lend": (False,), "mixed": (True, False, True), "free": ()}


def ends_of(deed, owns):
    """For each of a deed's names whether it is used up there."""
    if deed[0] == "call":
        return list(owns[deed[1]])
    return [deed[0] != "op"] * len(deed_names(deed))


def wanted_form(body, names, owns):
    """What [17] tells of a body at whose begin these names are held: the drops, how often each name
    is held anew, which names are used up themselves, and the piece with the bodies within."""
    drops = {name for name in names if not used_ahead(body, name)}
    here = names - drops
    if body[0] == "if":
        return (drops, {}, set(), ("if", body[1], *(wanted_form(within, here, owns) for within in body[2:])))
    if body[0] == "case":
        arms = []
        for tag, parts, within in body[2]:
            takes = body[1] in here and not used_ahead(within, body[1])
            left = here - {body[1]} if takes else here
            arms.append((tag, parts, "take" if takes else "look", wanted_form(within, left | set(parts), owns)))
        return (drops, {}, set(), ("case", body[1], arms))
    if body[0] == "give":
        own = {body[1]} & here
        return (drops, {} if own else {body[1]: 1}, own, body)
    used = list(zip(deed_names(body[2]), ends_of(body[2], owns)))
    spent = Counter(name for name, end in used if end)
    lent = {name for name, end in used if not end}
    own = {name for name in spent if name in here and not used_ahead(body[3], name) and name not in lent}
    holds = {name: spent[name] - (name in own) for name in spent if spent[name] > (name in own)}
    return (drops, holds, own, ("let", body[1], body[2], wanted_form(body[3], here - own | {body[1]}, owns)))


def found_form(body, owns):
    """The same of held code, which is refused where it is put together otherwise."""
    drops, new = [], {}
    while body[0] == "drop":
        drops.append(body[1])
        body = body[2]
    while body[0] == "hold":
        assert body[1] not in new and body[2] not in new
        new[body[1]] = body[2]
        body = body[3]
    assert len(drops) == len(set(drops))
    used = spent_names(body, owns)
    assert all(used.count(name) == 1 for name in new)
    own = {name for name in used if name not in new}
    assert all(used.count(name) == 1 for name in own)
    return (set(drops), dict(Counter(new.values())), own, found_piece(body, new, owns))


def spent_names(body, owns):
    if body[0] == "give":
        return [body[1]]
    if body[0] == "let":
        return [name for name, end in zip(deed_names(body[2]), ends_of(body[2], owns)) if end]
    return []


def found_piece(body, new, owns):
    if body[0] == "give":
        return ("give", new.get(body[1], body[1]))
    if body[0] == "let":
        return ("let", body[1], plain_deed(body[2], new), found_form(body[3], owns))
    if body[0] == "if":
        return ("if", body[1], *(found_form(within, owns) for within in body[2:]))
    assert body[0] == "case" and all(arm[3] == "" for arm in body[2])
    return ("case", body[1], [(tag, names, mode, found_form(within, owns)) for tag, names, mode, _, within in body[2]])


def plain_deed(deed, new):
    if deed[0] == "num":
        return deed
    names = tuple(new.get(name, name) for name in deed_names(deed))
    if deed[0] == "op":
        return deed[:2] + names
    if deed[0] == "ask":
        return ("ask", names[0], names[1:])
    assert deed[0] != "make" or deed[3:] == ("",)
    return (deed[0], deed[1], names)


class Held(unittest.TestCase):
    def as_told(self, program, owns):
        handed, before = copy.deepcopy(owns), copy.deepcopy(program)
        code = held(program, handed)
        self.assertEqual((handed, program), (owns, before))
        self.assertEqual(held(program, handed), code)
        self.assertEqual(code[0], program[0])
        self.assertEqual([one[:3] for one in code[1]], [(one[0], one[1], owns[one[0]]) for one in program[1]])
        for one, other in zip(program[1], code[1]):
            self.assertEqual(len(other), 4)
            names = {param for param, own in zip(one[1], owns[one[0]]) if own}
            self.assertEqual(found_form(other[3], owns), wanted_form(one[2], names, owns))
            new = [body[1] for body in all_bodies(other[3]) if body[0] == "hold"]
            self.assertEqual(len(new), len(set(new)))
            self.assertEqual(set(new) & set(bound(one)), set())
        self.assertEqual(plain(code), program)
        return code

    def body(self, text, own, params="x y", tail=""):
        """The held body of a def, of whose params the `own` ones are held."""
        program = read(f"{KINDS}\ndef f {params} = {text}\n{OTHERS}{tail}")
        owns = {**OWNS, "f": tuple(name in own.split() for name in params.split())}
        for name in handed_defs(program):
            owns[name] = (True,) * len(owns[name])
        return self.as_told(program, owns)[1][0][3]

    def test_give(self):
        self.assertEqual(self.body("give x", "x"), ("give", "x"))
        lent = self.body("give x", "")
        self.assertEqual((lent[0], lent[2:]), ("hold", ("x", ("give", lent[1]))))

    def test_drops_at_the_begin_of_a_def(self):
        self.assertEqual(self.body("give x", "x y"), ("drop", "y", ("give", "x")))
        body = self.body("let a num 1 give a", "x y")
        self.assertEqual({body[1], body[2][1]}, {"x", "y"})
        self.assertEqual((body[0], body[2][0], body[2][2]), ("drop", "drop", ("let", "a", ("num", 1), ("give", "a"))))
        self.assertEqual(self.body("let a num 1 give a", ""), ("let", "a", ("num", 1), ("give", "a")))

    def test_drops_behind_a_let(self):
        op = ("op", "plus", "x", "y")
        body = self.body("let a plus x y give a", "x")
        self.assertEqual(body, ("let", "a", op, ("drop", "x", ("give", "a"))))
        body = self.body("let a plus x y give y", "y")
        self.assertEqual(body, ("let", "a", op, ("drop", "a", ("give", "y"))))

    def test_drops_in_the_branches_of_an_if(self):
        body = self.body("if x give x else give y", "x y")
        self.assertEqual(body, ("if", "x", ("drop", "y", ("give", "x")), ("drop", "x", ("give", "y"))))

    def test_takes_looks_and_drops_in_arms(self):
        arms = "case x nil : give y cons a b : give a end"
        self.assertEqual(self.body(arms, "x y"), ("case", "x", (
            ("nil", (), "take", "", ("give", "y")),
            ("cons", ("a", "b"), "take", "", self.body(arms, "x y")[2][1][4]),
        )))
        dropped = self.body(arms, "x y")[2][1][4]
        self.assertEqual({dropped[1], dropped[2][1]}, {"y", "b"})
        looked = self.body(arms, "y")[2]
        self.assertEqual([arm[2] for arm in looked], ["look", "look"])
        self.assertEqual(looked[0][4], ("give", "y"))

    def test_an_arm_in_which_the_name_is_used_ahead_looks(self):
        body = self.body("case x nil : give x cons a b : give a end", "x")
        self.assertEqual(body[2][0], ("nil", (), "look", "", ("give", "x")))
        self.assertEqual(body[2][1], ("cons", ("a", "b"), "take", "", ("drop", "b", ("give", "a"))))

    def test_make_func_ask_use_their_names_up(self):
        self.assertEqual(
            self.body("let a make cons x y ; give a", "x y"), ("let", "a", ("make", "cons", ("x", "y"), ""), ("give", "a"))
        )
        self.assertEqual(
            self.body("let a func mixed x y ; give a", "x y"), ("let", "a", ("func", "mixed", ("x", "y")), ("give", "a"))
        )
        self.assertEqual(self.body("let a ask x y ; give a", "x y"), ("let", "a", ("ask", "x", ("y",)), ("give", "a")))

    def test_holds_for_names_used_up_several_times_or_lent_or_used_ahead(self):
        for text in (
            "let a make cons x x ; give a", "let a make cons x x ; give x", "let a make big x y x y x x y x x ; give a",
            "let a ask x x ; give a", "let a ask x x x y ; give x", "let a func mixed x x ; give a",
            "let a func mixed x ; let b ask a x ; give b",
            "let a call own x ; give a", "let a call own x ; give x", "let a call lend x ; give a",
            "let a call mixed x x x ; give a", "let a call mixed x y x ; give a", "let a call mixed x y x ; give x",
            "let a call mixed y x x ; give a", "let a call mixed y x y ; give a", "let a call mixed x x y ; give y",
            "let a call mixed x y y ; give a", "let a call free ; give a", "let a make leaf x ; if y give x else give a",
            "let a make leaf x ; case a leaf b : give b bud : give x end",
            "if x let a make cons x x ; give a else let a make cons x y ; give x",
        ):
            for own in ("", "x", "y", "x y"):
                self.body(text, own)

    def test_names_of_the_program_that_are_like_new_ones(self):
        for names in (("y", "h", "x", "xx"), ("xa", "xb", "xh", "hold"), ("new", "holdx", "hx", "ya")):
            lets = "".join(f"let {name} make cons x x ; " for name in names[2:])
            self.body(f"{lets}let z make cons x x ; give z", "x", params=f"{names[0]} x" if "x" not in names else "x")

    def test_all_kinds_of_owns_of_the_library(self):
        program = read(LIBRARY)
        for seed in range(20):
            self.as_told(program, some_owns(program, random.Random(seed)))
        self.as_told(program, {name: (True,) * len(params) for name, params, _ in program[1]})

    def test_made_programs(self):
        for seed in range(400):
            program = SoundMaker(seed, depth=4).program
            self.as_told(program, some_owns(program, random.Random(seed)))

    def test_the_program_without_kinds_and_defs(self):
        self.assertEqual(held(((), ()), {}), ((), ()))
        self.assertEqual(plain(((), ())), ((), ()))

    def test_depth(self):
        names = [a + b for a in "abcdefghij" for b in "klmnopqrst"]
        text = "".join(f"let {name} make cons x x ; if {name} " for name in names[:30]) + "give x"
        text += " else give x" * 30
        self.body(text, "x", params="x")
        deep = ("give", "x")
        for _ in range(3000):
            deep = ("if", "x", ("give", "x"), deep)
        code = held(((), (("f", ("x",), deep),)), {"f": (False,)})
        body = plain(code)[1][0][2]
        for _ in range(3000):
            self.assertEqual(body[:3], ("if", "x", ("give", "x")))
            body = body[3]
        self.assertEqual(body, ("give", "x"))


class Plain(unittest.TestCase):
    def told(self, body, wanted):
        code = (((("nil", 0), ("cons", 2)),), (("f", ("x", "y"), (True, False), body),))
        for _ in range(2):
            self.assertEqual(plain(code), (code[0], (("f", ("x", "y"), wanted),)))

    def test_drops_and_looses_go(self):
        self.told(("drop", "x", ("loose", "t", ("drop", "y", ("give", "x")))), ("give", "x"))

    def test_tokens_and_modes_go(self):
        self.told(
            ("case", "x", (
                ("nil", (), "look", "", ("give", "x")),
                ("cons", ("a", "b"), "take", "t", ("let", "c", ("make", "cons", ("b", "a"), "t"), ("give", "c"))),
            )),
            ("case", "x", (
                ("nil", (), ("give", "x")), ("cons", ("a", "b"), ("let", "c", ("make", "cons", ("b", "a")), ("give", "c")))
            )),
        )

    def test_a_name_that_a_hold_binds_at_each_place(self):
        for deed, wanted in (
            (("num", 1), ("num", 1)), (("op", "plus", "h", "y"), ("op", "plus", "x", "y")),
            (("op", "plus", "y", "h"), ("op", "plus", "y", "x")),
            (("make", "cons", ("h", "y"), ""), ("make", "cons", ("x", "y"))),
            (("make", "h", ("h",), "h"), ("make", "h", ("x",))),
            (("call", "h", ("h", "h")), ("call", "h", ("x", "x"))), (("func", "h", ("y", "h")), ("func", "h", ("y", "x"))),
            (("ask", "h", ("h", "y")), ("ask", "x", ("x", "y"))), (("ask", "y", ()), ("ask", "y", ())),
        ):
            self.told(("hold", "h", "x", ("let", "z", deed, ("give", "z"))), ("let", "z", wanted, ("give", "z")))
        self.told(("hold", "h", "x", ("give", "h")), ("give", "x"))
        self.told(
            ("hold", "h", "x", ("if", "h", ("give", "h"), ("drop", "h", ("give", "y")))),
            ("if", "x", ("give", "x"), ("give", "y")),
        )
        self.told(
            ("hold", "h", "x", ("case", "h", (("nil", (), "take", "", ("give", "h")),))),
            ("case", "x", (("nil", (), ("give", "x")),)),
        )

    def test_holds_of_holds(self):
        self.told(("hold", "h", "x", ("hold", "i", "h", ("hold", "j", "i", ("give", "j")))), ("give", "x"))
        self.told(
            ("hold", "h", "x", ("hold", "i", "h", ("let", "z", ("op", "plus", "h", "i"), ("give", "y")))),
            ("let", "z", ("op", "plus", "x", "x"), ("give", "y")),
        )

    def test_a_name_bound_anew_stands_for_itself(self):
        self.told(
            ("hold", "h", "x", ("drop", "h", ("let", "h", ("num", 1), ("give", "h")))), ("let", "h", ("num", 1), ("give", "h"))
        )
        self.told(
            ("hold", "h", "x", ("let", "h", ("op", "plus", "h", "h"), ("give", "h"))),
            ("let", "h", ("op", "plus", "x", "x"), ("give", "h")),
        )
        self.told(
            ("hold", "h", "x", ("case", "h", (
                ("cons", ("h", "t"), "take", "", ("give", "h")), ("nil", (), "look", "", ("give", "h"))
            ))),
            ("case", "x", (("cons", ("h", "t"), ("give", "h")), ("nil", (), ("give", "x")))),
        )

    def test_what_stood_for_it_stays_when_a_name_is_bound_anew(self):
        self.told(
            ("hold", "h", "x", ("hold", "i", "h", ("drop", "h", ("let", "h", ("num", 1), ("if", "h", ("give", "i"), ("give", "h")))))),
            ("let", "h", ("num", 1), ("if", "h", ("give", "x"), ("give", "h"))),
        )

    def test_a_hold_that_binds_a_name_again(self):
        self.told(
            ("hold", "h", "x", ("drop", "h", ("hold", "h", "y", ("give", "h")))), ("give", "y")
        )
        self.told(
            ("hold", "h", "x", ("drop", "x", ("hold", "x", "y", ("let", "z", ("op", "plus", "h", "x"), ("give", "z"))))),
            ("let", "z", ("op", "plus", "x", "y"), ("give", "z")),
        )

    def test_what_is_bound_on_one_way_does_not_reach_the_other(self):
        self.told(
            ("if", "y", ("hold", "h", "x", ("give", "h")), ("let", "h", ("num", 1), ("give", "h"))),
            ("if", "y", ("give", "x"), ("let", "h", ("num", 1), ("give", "h"))),
        )
        held_anew = ("drop", "h", ("hold", "h", "x", ("give", "h")))
        self.told(
            ("let", "h", ("num", 1), ("if", "y", held_anew, ("drop", "x", ("give", "h")))),
            ("let", "h", ("num", 1), ("if", "y", ("give", "x"), ("give", "h"))),
        )

    def test_names_of_several_defs_are_apart(self):
        code = ((), (
            ("f", ("x",), (True,), ("hold", "h", "x", ("give", "h"))), ("g", ("h",), (True,), ("give", "h")),
        ))
        self.assertEqual(plain(code), ((), (("f", ("x",), ("give", "x")), ("g", ("h",), ("give", "h")))))

    def test_depth(self):
        for many in (250, 5000):
            body = ("give", "h")
            for place in range(many):
                body = (("hold", "h", "h", body), ("drop", "y", body), ("loose", "t", body))[place % 3]
            self.told(("hold", "h", "x", body), ("give", "x"))


if __name__ == "__main__":
    unittest.main()
