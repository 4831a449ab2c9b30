import random
import unittest

from reusewise.anew import anew
from reusewise.checker import checked, tight
from reusewise.errors import (
    Fault, Full, Gone, Lacking, Misfit, NoText, NoValue, ReuseError, Twice, Unheld, Unknown,
)
from reusewise.holds import held, plain
from reusewise.owners import owners
from reusewise.reader import read
from reusewise.sound import sound
from tests.helper import LIBRARY, Loosener, SoundMaker, Spoiler, first_unheld, is_tight, some_owns

OTHER_REFUSALS = (Fault, Full, Gone, Lacking, Misfit, NoText, NoValue, Twice, Unknown)
KINDS = ((("leaf", 1), ("bud", 0)), (("cons", 2),))
OTHERS = (
    ("own", ("x",), (True,), ("give", "x")), ("lend", ("x",), (False,), ("let", "r", ("num", 1), ("give", "r"))),
    ("mixed", ("x", "y", "z"), (True, False, True), ("drop", "z", ("give", "x"))),
    ("none", (), (), ("let", "r", ("num", 1), ("give", "r"))),
)
GIVE_X = ("give", "x")


def let(deed, body, name="a"):
    return ("let", name, deed, body)


def case(name, leaf, bud=None):
    """A case with an arm for each of leaf, with the names and all, and bud, which looks and gives a number."""
    bud = bud or ("bud", (), "look", "", ("drop", name, let(("num", 1), ("give", "a"))))
    return ("case", name, (("leaf", *leaf), bud))


def whole(body, owns=(True, False)):
    return (KINDS, (("f", ("x", "y"), owns, body), *OTHERS))


class CheckerTest(unittest.TestCase):
    def lets_by(self, body, owns=(True, False)):
        code = whole(body, owns)
        self.assertIs(sound(plain(code)), True)
        self.assertIsNone(first_unheld(code), body)
        for _ in range(2):
            self.assertIs(checked(code), True)

    def refused(self, body, owns=(True, False)):
        code = whole(body, owns)
        self.assertIs(sound(plain(code)), True)
        self.assertEqual(first_unheld(code), "f")
        self.code_refused(code, "f")

    def code_refused(self, code, name):
        for _ in range(2):
            with self.assertRaises(Unheld) as caught:
                checked(code)
            self.assertEqual(vars(caught.exception), {"name": name})
            self.assertIsInstance(caught.exception, ReuseError)
            self.assertNotIsInstance(caught.exception, OTHER_REFUSALS)


class Names(CheckerTest):
    def test_give(self):
        self.lets_by(GIVE_X)
        self.lets_by(("drop", "x", ("hold", "h", "y", ("give", "h"))))
        self.refused(("give", "y"))
        self.refused(("drop", "x", ("give", "y")))
        self.refused(("drop", "x", GIVE_X))

    def test_a_name_held_at_the_give(self):
        self.refused(let(("num", 1), GIVE_X))
        self.refused(("hold", "h", "x", GIVE_X))
        self.refused(("hold", "h", "y", GIVE_X))
        self.refused(GIVE_X, (True, True))
        self.lets_by(GIVE_X, (True, False))
        self.lets_by(("drop", "y", GIVE_X), (True, True))

    def test_drop(self):
        self.lets_by(("hold", "h", "x", ("drop", "x", ("give", "h"))))
        self.refused(("drop", "y", GIVE_X))
        self.refused(("hold", "h", "x", ("drop", "h", ("drop", "h", GIVE_X))))
        self.refused(("hold", "h", "x", ("drop", "x", ("drop", "x", ("give", "h")))))

    def test_hold(self):
        self.lets_by(("hold", "h", "x", ("hold", "i", "h", ("drop", "h", ("drop", "i", GIVE_X)))))
        self.refused(("drop", "x", ("hold", "h", "x", ("give", "h"))))
        self.refused(("hold", "x", "x", GIVE_X))
        self.refused(("hold", "y", "x", ("drop", "y", GIVE_X)))
        self.refused(("hold", "h", "x", ("hold", "h", "y", ("drop", "h", GIVE_X))))
        self.lets_by(("hold", "h", "x", ("drop", "h", ("hold", "h", "y", ("drop", "h", GIVE_X)))))
        self.lets_by(("hold", "h", "x", ("drop", "x", ("hold", "x", "h", ("drop", "h", GIVE_X)))))

    def test_op(self):
        plus = ("op", "plus", "x", "y")
        self.lets_by(let(plus, ("drop", "x", ("give", "a"))))
        self.lets_by(let(("op", "plus", "x", "x"), ("drop", "a", GIVE_X)))
        self.refused(("drop", "x", let(plus, ("give", "a"))))
        self.refused(let(plus, ("give", "a")))
        self.refused(("drop", "x", let(("op", "plus", "y", "x"), ("give", "a"))))

    def test_if(self):
        self.lets_by(("if", "x", GIVE_X, ("drop", "x", let(("num", 1), ("give", "a")))))
        self.lets_by(("if", "y", GIVE_X, GIVE_X))
        self.refused(("drop", "x", ("if", "x", *[let(("num", 1), ("give", "a"))] * 2)))
        self.refused(("if", "x", ("drop", "x", GIVE_X), GIVE_X))
        self.refused(("if", "x", GIVE_X, ("drop", "x", GIVE_X)))

    def test_what_is_used_up_on_one_way_is_at_hand_on_the_other(self):
        one = ("drop", "x", let(("num", 1), ("give", "a")))
        self.lets_by(("if", "y", one, GIVE_X))
        self.lets_by(("if", "y", GIVE_X, one))
        self.lets_by(("if", "y", ("if", "y", one, GIVE_X), ("if", "y", GIVE_X, one)))

    def test_make_func_ask_use_names_up(self):
        for deed in (("make", "leaf", ("x",), ""), ("func", "own", ("x",)), ("ask", "x", ())):
            self.lets_by(let(deed, ("give", "a")))
            self.refused(let(deed, ("drop", "a", GIVE_X)))
            self.refused(("drop", "x", let(deed, ("give", "a"))))
        for deed in (("make", "leaf", ("y",), ""), ("func", "own", ("y",)), ("ask", "y", ()), ("ask", "x", ("y",))):
            self.refused(("drop", "x", let(deed, ("give", "a"))) if deed[1] != "x" else let(deed, ("give", "a")))

    def test_used_up_twice_in_one_deed(self):
        for deed in (("make", "cons", ("x", "x"), ""), ("ask", "x", ("x",)), ("ask", "y", ("x", "x"))):
            self.refused(let(deed, ("give", "a")), (True, True))
        self.lets_by(("hold", "h", "x", let(("make", "cons", ("x", "h"), ""), ("give", "a"))))
        self.lets_by(let(("make", "cons", ("y", "x"), ""), ("give", "a")), (True, True))
        self.refused(let(("call", "mixed", ("x", "y", "x")), ("give", "a")))

    def test_call(self):
        self.lets_by(let(("call", "own", ("x",)), ("give", "a")))
        self.lets_by(let(("call", "lend", ("x",)), ("drop", "x", ("give", "a"))))
        self.lets_by(let(("call", "lend", ("y",)), ("drop", "x", ("give", "a"))))
        self.lets_by(let(("call", "none", ()), ("drop", "x", ("give", "a"))))
        self.lets_by(("hold", "h", "x", let(("call", "mixed", ("x", "y", "h")), ("give", "a"))))
        self.refused(let(("call", "own", ("y",)), ("drop", "x", ("give", "a"))))
        self.refused(let(("call", "own", ("x",)), ("drop", "x", ("give", "a"))))
        self.refused(let(("call", "lend", ("x",)), ("give", "a")))
        self.refused(("drop", "x", let(("call", "lend", ("x",)), ("give", "a"))))

    def test_lent_and_used_up_by_one_call(self):
        self.refused(("hold", "h", "x", let(("call", "mixed", ("x", "x", "h")), ("give", "a"))))
        self.refused(("hold", "h", "x", let(("call", "mixed", ("h", "x", "x")), ("give", "a"))))
        self.lets_by(("hold", "h", "x", ("hold", "i", "x", let(("call", "mixed", ("h", "x", "i")), ("drop", "x", ("give", "a"))))))
        self.lets_by(("hold", "h", "y", let(("call", "mixed", ("x", "y", "h")), ("give", "a"))))

    def test_a_func_of_a_def_with_a_lent_param(self):
        self.refused(("drop", "x", let(("func", "lend", ()), ("give", "a"))))
        self.refused(let(("func", "mixed", ("x",)), ("give", "a")))
        self.refused(let(("func", "lend", ("x",)), ("give", "a")))
        self.lets_by(("drop", "x", let(("func", "own", ()), ("give", "a"))))
        self.lets_by(("drop", "x", let(("func", "none", ()), ("give", "a"))))

    def test_a_name_bound_by_a_let_while_at_hand(self):
        made = ("make", "leaf", ("h",), "")
        self.lets_by(("hold", "h", "x", let(made, ("drop", "x", ("give", "h")), "h")))
        self.refused(("hold", "h", "x", let(("num", 1), ("drop", "x", ("give", "h")), "h")))
        self.refused(("hold", "h", "x", let(("op", "plus", "h", "h"), ("drop", "x", ("give", "h")), "h")))
        self.refused(("hold", "h", "x", let(("call", "lend", ("h",)), ("drop", "x", ("give", "h")), "h")))
        self.lets_by(("hold", "h", "x", let(("call", "own", ("h",)), ("drop", "x", ("give", "h")), "h")))

    def test_case(self):
        self.lets_by(case("x", (("p",), "take", "", ("give", "p"))))
        self.lets_by(case("x", (("p",), "look", "", ("drop", "x", ("give", "p")))))
        self.refused(case("x", (("p",), "look", "", ("give", "p"))))
        self.refused(case("x", (("p",), "take", "", ("drop", "x", ("give", "p")))))
        self.refused(case("x", (("p",), "take", "", ("drop", "p", GIVE_X))))
        bud = ("bud", (), "look", "", GIVE_X)
        self.lets_by(case("y", (("p",), "look", "", ("drop", "p", GIVE_X)), bud))
        self.refused(case("y", (("p",), "take", "", ("drop", "p", GIVE_X)), bud))
        self.refused(case("y", (("p",), "look", "", ("drop", "p", GIVE_X)), ("bud", (), "take", "", GIVE_X)))
        self.refused(("drop", "x", case("x", (("p",), "look", "", ("give", "p")), ("bud", (), "look", "", (
            let(("num", 1), ("give", "a")))))))
        self.lets_by(case("x", (("p",), "take", "", ("give", "p")), ("bud", (), "take", "", let(("num", 1), ("give", "a")))))

    def test_an_arms_names_while_at_hand(self):
        bud = ("bud", (), "take", "", ("drop", "x", let(("num", 1), ("give", "a"))))
        self.lets_by(("hold", "h", "x", case("h", (("h",), "take", "", ("drop", "x", ("give", "h"))), bud)))
        self.refused(("hold", "h", "x", case("h", (("h",), "look", "", ("drop", "x", ("give", "h"))), bud)))
        self.refused(("hold", "h", "y", case("x", (("h",), "take", "", ("give", "h")), (
            "bud", (), "take", "", ("give", "h")))))

    def test_an_arms_names_among_each_other(self):
        # Such code's plain form is not sound, so it is only asked that a later name is held against those ahead.
        body = ("case", "x", (("cons", ("p", "q"), "take", "", ("drop", "q", ("give", "p"))),))
        self.lets_by(body)
        twice = ("case", "x", (("cons", ("p", "p"), "take", "", ("give", "p")),))
        self.code_refused(whole(twice), "f")


class Tokens(CheckerTest):
    def arm(self, token, body, names=("p",), mode="take"):
        return case("x", (names, mode, token, body))

    def test_a_token_used_up(self):
        made = ("make", "leaf", ("p",), "t")
        self.lets_by(self.arm("t", let(made, ("give", "a"))))
        self.lets_by(self.arm("t", ("loose", "t", ("give", "p"))))
        self.lets_by(self.arm("t", ("if", "p", let(made, ("give", "a")), ("loose", "t", ("give", "p")))))

    def test_a_token_never_kept_or_kept_no_more(self):
        made = ("make", "leaf", ("p",), "t")
        self.refused(let(("make", "leaf", ("x",), "t"), ("give", "a")))
        self.refused(("loose", "t", GIVE_X))
        self.refused(("loose", "", GIVE_X))
        self.refused(self.arm("", let(made, ("give", "a"))))
        self.refused(self.arm("", ("loose", "", ("give", "p"))))
        self.refused(self.arm("u", ("loose", "t", ("give", "p"))))
        self.refused(self.arm("t", ("loose", "t", let(made, ("give", "a")))))
        self.refused(self.arm("t", ("loose", "t", ("loose", "t", ("give", "p")))))
        self.refused(self.arm("t", let(made, let(("make", "leaf", ("a",), "t"), ("give", "b"), "b"))))
        self.refused(self.arm("t", let(made, ("loose", "t", ("give", "a")))))

    def test_a_token_never_used_up(self):
        self.refused(self.arm("t", ("give", "p")))
        self.refused(self.arm("t", let(("make", "leaf", ("p",), ""), ("give", "a"))))
        self.refused(self.arm("t", ("if", "p", ("loose", "t", ("give", "p")), ("give", "p"))))
        self.refused(self.arm("t", ("if", "p", ("give", "p"), ("loose", "t", ("give", "p")))))

    def test_a_token_of_another_size(self):
        self.refused(self.arm("t", ("hold", "h", "p", let(("make", "cons", ("p", "h"), "t"), ("give", "a")))))
        self.refused(self.arm("t", ("drop", "p", let(("make", "bud", (), "t"), ("give", "a")))))
        pair = ("case", "x", (("cons", ("p", "q"), "take", "t", ("drop", "q", let(("make", "leaf", ("p",), "t"), ("give", "a")))),))
        self.refused(pair)
        self.lets_by(("case", "x", (("cons", ("p", "q"), "take", "t", let(("make", "cons", ("p", "q"), "t"), ("give", "a"))),)))

    def test_a_token_in_look_way_or_without_names(self):
        self.refused(self.arm("t", ("drop", "x", ("loose", "t", ("give", "p"))), mode="look"))
        bud = ("bud", (), "take", "t", ("loose", "t", let(("num", 1), ("give", "a"))))
        self.refused(case("x", (("p",), "take", "", ("give", "p")), bud))
        bud = ("bud", (), "take", "", let(("num", 1), ("give", "a")))
        self.lets_by(case("x", (("p",), "take", "", ("give", "p")), bud))

    def test_a_token_bound_while_kept(self):
        def inner(token, ahead=False):
            loosed = ("give", "q")
            for one in [token] if ahead or token == "t" else ["t", token]:
                loosed = ("loose", one, loosed)
            bud = ("bud", (), "take", "", ("loose", "t", let(("num", 1), ("give", "a"))))
            if ahead:
                bud = bud[:4] + (let(("num", 1), ("give", "a")),)
            return case("p", (("q",), "take", token, loosed), bud)

        self.lets_by(self.arm("t", inner("u")))
        self.refused(self.arm("t", inner("t")))
        self.lets_by(self.arm("t", ("loose", "t", inner("t", True))))
        self.lets_by(self.arm("t", ("loose", "t", inner("u", True))))

    def test_the_same_token_on_ways_beside_one_another(self):
        arm = case("x", (("p",), "take", "t", let(("make", "leaf", ("p",), "t"), ("give", "a"))))
        self.lets_by(("if", "y", arm, arm))

    def test_names_and_tokens_do_not_hinder_one_another(self):
        self.lets_by(self.arm("x", let(("make", "leaf", ("p",), "x"), ("give", "a"))))
        self.lets_by(self.arm("p", ("loose", "p", ("give", "p"))))


class TheFirstDef(CheckerTest):
    def test_of_several_with_a_fault(self):
        good, bad = ("give", "x"), ("drop", "x", ("give", "x"))
        for faults in range(1, 16):
            defs = tuple((name, ("x",), (True,), bad if faults >> k & 1 else good) for k, name in enumerate("abcd"))
            code = ((), defs)
            name = [name for k, name in enumerate("abcd") if faults >> k & 1][0]
            self.code_refused(code, name)
            self.assertEqual(first_unheld(code), name)

    def test_code_without_defs(self):
        self.assertIs(checked(((), ())), True)
        self.assertIs(tight(((), ())), True)

    def test_depth(self):
        for many in (250, 4000):
            deep = GIVE_X
            for _ in range(many):
                deep = ("hold", "h", "x", ("drop", "h", deep))
            self.assertIs(checked(whole(deep)), True)
            self.assertIs(tight(whole(deep)), True)
            self.code_refused(whole(("drop", "x", deep)), "f")
            for _ in range(many):
                deep = ("if", "x", GIVE_X, deep)
            self.assertIs(checked(whole(deep)), True)
            self.assertIs(tight(whole(deep)), True)


class MadeCode(CheckerTest):
    def test_made_code_is_let_by_and_tight(self):
        for seed in range(200):
            program = SoundMaker(seed, depth=4, shapely=seed % 2 == 0).program
            for owns in (owners(program), some_owns(program, random.Random(seed))):
                code = held(program, owns)
                for one in (code, anew(code)):
                    self.assertIs(checked(one), True)
                    self.assertIs(tight(one), True)
                    self.assertIsNone(first_unheld(one))

    def test_spoilt_code_held_against_the_ways_through_it(self):
        met = {True: 0, False: 0}
        for seed in range(2500):
            code = self.spoilt(seed)
            if code is None:
                continue
            name = first_unheld(code)
            met[name is None] += 1
            if name is None:
                self.assertIs(checked(code), True)
                self.assertIs(tight(code), is_tight(code))
            else:
                self.code_refused(code, name)
        self.assertGreater(min(met.values()), 150)

    def test_other_code_that_is_let_by_held_against_the_ways_through_it(self):
        met = {True: 0, False: 0}
        for seed in range(500):
            program = SoundMaker(seed, depth=4, shapely=seed % 2 == 0).program
            code = Loosener(seed).other(anew(held(program, some_owns(program, random.Random(seed)))))
            self.assertEqual(plain(code), program)
            self.assertIs(checked(code), True)
            self.assertIs(tight(code), is_tight(code))
            met[is_tight(code)] += 1
        self.assertGreater(min(met.values()), 100)

    def spoilt(self, seed):
        """Some made code, changed at a place or two, or None where its plain form is not sound then."""
        chance = random.Random(seed)
        program = SoundMaker(seed % 300, depth=4, shapely=seed % 2 == 0).program
        code = anew(held(program, some_owns(program, chance)))
        spoilt = Spoiler(seed).spoilt(code)
        try:
            sound(plain(spoilt))
        except ReuseError:
            return None
        return spoilt


class Tight(CheckerTest):
    def told(self, body, answer, owns=(True, False)):
        self.lets_by(body, owns)
        code = whole(body, owns)
        self.assertIs(is_tight(code), answer)
        for _ in range(2):
            self.assertIs(tight(code), answer)

    def test_lets(self):
        self.told(let(("num", 1), ("drop", "a", GIVE_X)), True)
        self.told(let(("num", 1), let(("num", 2), ("drop", "a", ("drop", "b", GIVE_X)), "b")), False)
        self.told(("drop", "x", let(("num", 1), ("give", "a"))), True)
        self.told(let(("num", 1), ("drop", "x", ("give", "a"))), False)
        self.told(let(("op", "plus", "x", "y"), ("drop", "x", ("give", "a"))), True)
        self.told(let(("call", "lend", ("x",)), ("drop", "x", ("give", "a"))), True)
        self.told(let(("call", "own", ("x",)), ("give", "a")), True)

    def test_ifs(self):
        self.told(("if", "x", GIVE_X, ("drop", "x", let(("num", 1), ("give", "a")))), True)
        self.told(("if", "y", *[("drop", "x", let(("num", 1), ("give", "a")))] * 2), False)
        self.told(("if", "y", GIVE_X, ("drop", "x", let(("num", 1), ("give", "a")))), True)
        self.told(("if", "x", GIVE_X, let(("num", 1), ("drop", "x", ("give", "a")))), False)

    def test_cases(self):
        bud = ("bud", (), "take", "", let(("num", 1), ("give", "a")))
        self.told(case("x", (("p",), "take", "", ("give", "p")), bud), True)
        self.told(case("x", (("p",), "look", "", ("drop", "x", ("give", "p"))), bud), True)
        self.told(case("x", (("p",), "take", "", let(("num", 1), ("drop", "p", ("give", "a")))), bud), False)
        self.told(case("y", (("p",), "look", "", ("drop", "p", GIVE_X)), ("bud", (), "look", "", GIVE_X)), True)
        lost = ("bud", (), "look", "", ("drop", "x", let(("num", 1), ("give", "a"))))
        self.told(case("y", (("p",), "look", "", ("drop", "x", ("give", "p"))), lost), False)

    def test_gives(self):
        self.told(GIVE_X, True)
        self.told(("hold", "h", "x", ("drop", "x", ("give", "h"))), True)

    def test_holds_drops_and_looses_are_no_such_places(self):
        self.told(("hold", "h", "x", ("hold", "i", "x", ("drop", "h", ("drop", "i", GIVE_X)))), True)
        self.told(case("x", (("p",), "take", "t", ("loose", "t", ("give", "p"))), (
            "bud", (), "take", "", let(("num", 1), ("give", "a")))), True)

    def test_a_drop_is_no_use_and_a_hold_is_one(self):
        self.told(let(("num", 1), ("hold", "h", "a", ("drop", "h", ("drop", "a", GIVE_X)))), True)
        self.told(("hold", "h", "x", let(("num", 1), ("drop", "h", ("drop", "a", GIVE_X)))), False)
        self.told(let(("num", 1), ("hold", "h", "x", ("drop", "x", ("drop", "a", ("give", "h"))))), True)

    def test_names_bound_anew_behind(self):
        again = ("drop", "h", let(("num", 1), ("drop", "x", ("give", "h")), "h"))
        self.told(("hold", "h", "x", again), False)
        again = ("drop", "h", ("drop", "x", let(("num", 1), ("give", "h"), "h")))
        self.told(("hold", "h", "x", again), True)
        self.told(("hold", "h", "x", let(("num", 2), again, "b")[:3] + (("drop", "b", again),)), False)

    def test_lent_names_need_no_use(self):
        self.told(GIVE_X, True, (True, False))
        self.told(("if", "x", GIVE_X, GIVE_X), True)

    def test_a_later_def(self):
        code = ((), (("f", ("x",), (True,), GIVE_X), ("g", ("x",), (True,), let(("num", 1), ("drop", "a", GIVE_X)))))
        self.assertIs(tight(code), True)
        code = ((), code[1] + (("h", ("x",), (True,), let(("num", 1), ("drop", "x", ("give", "a")))),))
        self.assertIs(checked(code), True)
        self.assertIs(tight(code), False)

    def test_the_library(self):
        program = read(LIBRARY)
        self.assertIs(tight(anew(held(program, owners(program)))), True)


if __name__ == "__main__":
    unittest.main()
