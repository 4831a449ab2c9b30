import copy
import random
import unittest

from reusewise.errors import (
    Fault, Full, Gone, Lacking, Misfit, NoText, NoValue, ReuseError, Twice, Unheld, Unknown,
)
from reusewise.reader import read
from reusewise.sound import sound
from tests.helper import Maker, SoundMaker, told

REFUSALS = (Fault, Full, Gone, Lacking, Misfit, NoText, NoValue, Twice, Unheld, Unknown)
KINDS = "kind nil 0 cons 2\nkind leaf 1 fork 2 bud 0\nkind big 9"


def twice(names, above=()):
    """The faults of names bound one behind another."""
    seen = list(above)
    for name in names:
        if name in seen:
            yield Twice, name
        seen.append(name)


def unknown(names, there):
    for name in names:
        if name not in there:
            yield Unknown, name


def deed_faults(deed, kinds, defs, above):
    if deed[0] == "op":
        yield from unknown(deed[2:], above)
    elif deed[0] != "num":
        yield from unknown([deed[1]] if deed[0] == "ask" else [], above)
        yield from unknown(deed[2], above)
        if deed[0] == "make":
            sizes = dict(pair for kind in kinds for pair in kind)
            yield from unknown([deed[1]], sizes)
            if sizes.get(deed[1]) != len(deed[2]):
                yield Misfit, deed[1]
        elif deed[0] != "ask":
            params = {name: len(params) for name, params, _ in defs}
            yield from unknown([deed[1]], params)
            many = params.get(deed[1], 0)
            if many < len(deed[2]) or deed[0] == "call" and many != len(deed[2]):
                yield Misfit, deed[1]


def head_faults(arms, kinds, above):
    sizes = dict(pair for kind in kinds for pair in kind)
    place = {tag: at for at, kind in enumerate(kinds) for tag, _ in kind}
    for at, (tag, names, _) in enumerate(arms):
        yield from unknown([tag], sizes)
        if place.get(tag) != place.get(arms[0][0]):
            yield Misfit, tag
        if tag in [arm[0] for arm in arms[:at]]:
            yield Twice, tag
        if sizes.get(tag) != len(names):
            yield Misfit, tag
        yield from twice(names, above)


def body_faults(body, kinds, defs, above):
    if body[0] == "let":
        yield from deed_faults(body[2], kinds, defs, above)
        yield from twice([body[1]], above)
        yield from body_faults(body[3], kinds, defs, above + (body[1],))
        return
    yield from unknown([body[1]], above)
    if body[0] == "if":
        yield from body_faults(body[2], kinds, defs, above)
        yield from body_faults(body[3], kinds, defs, above)
    if body[0] == "case":
        yield from head_faults(body[2], kinds, above)
        first = [kind for kind in kinds if body[2][0][0] in dict(kind)][0]
        tags = [tag for tag, _ in first if tag not in [arm[0] for arm in body[2]]]
        if tags:
            yield Lacking, body[1], tags
        for _, names, within in body[2]:
            yield from body_faults(within, kinds, defs, above + names)


def faults(program):
    """What [9] refuses, in the order in which it is met."""
    kinds, defs = program
    yield from twice([tag for kind in kinds for tag, _ in kind])
    yield from twice([one[0] for one in defs])
    for _, params, body in defs:
        yield from twice(params)
        yield from body_faults(body, kinds, defs, params)


class SoundTest(unittest.TestCase):
    def lets_by(self, text):
        program = read(text)
        for _ in range(2):
            self.assertIs(sound(program), True, text)
        self.assertEqual(told(program), text)
        self.assertIsNone(next(faults(program), None))

    def refused(self, text, refusal, name, tags=None):
        program = read(text)
        self.assertEqual(next(faults(program))[:2], (refusal, name), text)
        self.program_refused(program, refusal, name, tags)
        self.assertEqual(told(program), text)

    def program_refused(self, program, refusal, name, tags=None):
        fields = {"name": name} if tags is None else {"name": name, "tags": tags}
        for _ in range(2):
            with self.assertRaises(ReuseError) as caught:
                sound(program)
            self.assertIsInstance(caught.exception, ValueError)
            self.assertEqual([one for one in REFUSALS if isinstance(caught.exception, one)], [refusal])
            self.assertEqual(vars(caught.exception), fields)

    def body_refused(self, body, refusal, name, tags=None):
        """The body's fault is told where it stands outermost, and also within other bodies."""
        for form in (
            "{}", "let q num 1 {}", "if x {} else give x", "if x give x else {}",
            "case x leaf q : give q bud : {} fork q p : give x end", "case x big qa qb qc qd qe qf qg qh qi : {} end",
        ):
            self.refused(f"{KINDS}\ndef f x y = {form.format(body)}\ndef g x = give x\ndef h = give z", refusal, name, tags)


class LetBy(SoundTest):
    def test_without_kinds_and_defs(self):
        self.lets_by("")
        self.lets_by("kind nil 0")
        self.lets_by("def f x = give x")

    def test_each_body_and_deed(self):
        for body in (
            "give x", "let a num 5 give a", "let a plus x y give a", "let a plus x x give x", "if x give x else give y",
            "let a make nil ; give a", "let a make cons x x ; give a", "let a make big x x x x x x x x y ; give a",
            "let a call f x y ; give a", "let a call none ; give a", "let a func f ; give a", "let a func f x ; give a",
            "let a func f x y ; give a", "let a ask x ; give a", "let a ask x x y ; give a",
            "let a ask x y y y y y y y y y ; give a",
            "case x nil : give x cons a b : give a end", "case x cons a b : give b nil : give y end",
            "case x bud : give x fork a b : give b leaf a : give a end", "case x big a b c d e g h i j : give j end",
        ):
            self.lets_by(f"{KINDS}\ndef none = let x num 1 give x\ndef f x y = {body}")

    def test_names_of_tags_defs_and_values_that_are_alike(self):
        self.lets_by("kind a 1\ndef a a = case a a b : let c make a b ; let d call a c ; let e func a d ; give e end")
        self.lets_by("kind a 0 b 1\ndef b a = case a a : give a b b : let c call b b ; give b end\ndef a b = give b")

    def test_the_same_name_bound_in_branches_beside_one_another(self):
        self.lets_by("def f x = if x let a num 1 give a else let a num 2 give a")
        self.lets_by(f"{KINDS}\ndef f x = case x leaf a : give a fork a b : give b bud : let a num 1 let b num 2 give a end")
        self.lets_by(
            f"{KINDS}\ndef f x = if x case x nil : let h num 1 give h cons h t : give h end "
            "else case x cons t h : give t nil : let t num 1 give t end"
        )

    def test_the_same_names_in_several_defs(self):
        self.lets_by("def f x y = let a num 1 give a\ndef g y x = let a num 1 give a\ndef h a = give a")

    def test_defs_that_stand_behind_and_call_one_another(self):
        self.lets_by("def f x = let a call g x ; give a\ndef g x = let a call f x ; give a")
        self.lets_by("def f = let a call f ; give a")

    def test_made_programs(self):
        for seed in range(300):
            self.lets_by(told(SoundMaker(seed).program))

    def test_beyond_the_bounds(self):
        names = [a + b for a in "abcdefghijkl" for b in "mnopqrstuvwxyz"]
        lets = "".join(f"let {name} num 1 " for name in names)
        self.lets_by(f"def f x = {lets}give x")
        self.lets_by("\n".join(f"def {name} x = give x" for name in names))
        deep = "def f x = " + "if x " * 2000 + "give x" + " else give x" * 2000
        self.assertIs(sound(read(deep)), True)
        deep = "kind t 0\ndef f x = " + "case x t : " * 2000 + "give x" + " end" * 2000
        self.assertIs(sound(read(deep)), True)


class RefusedAboveTheBodies(SoundTest):
    def test_tags(self):
        self.refused("kind a 0 a 0", Twice, "a")
        self.refused("kind a 0 b 1\nkind c 0 b 2 a 0", Twice, "b")
        self.refused("kind a 0\nkind b 0\nkind a 0", Twice, "a")

    def test_names_of_defs(self):
        self.refused("def f x = give x\ndef g x = give x\ndef f = give y", Twice, "f")
        self.refused("def g x = give x\ndef f x = give x\ndef f x y = give x\ndef g x = give x", Twice, "f")

    def test_params(self):
        self.refused("def f x x = give x", Twice, "x")
        self.refused("def f a b c b a = give a", Twice, "b")
        self.refused("def f x = give x\ndef g x y y = give x", Twice, "y")

    def test_tags_go_ahead_of_defs_and_these_of_bodies(self):
        self.refused("kind a 0 a 0\ndef f x x = give y\ndef f = give z", Twice, "a")
        self.refused("kind a 0\ndef f x x = give y\ndef g = give z\ndef g = give z", Twice, "g")

    def test_the_defs_in_their_order_params_ahead_of_the_body(self):
        self.refused("def f x x = give y", Twice, "x")
        self.refused("def f x = give y\ndef g z z = give x", Unknown, "y")
        self.refused("def g z z = give x\ndef f x = give y", Twice, "z")


class RefusedInBodies(SoundTest):
    def test_a_name_that_is_not_bound(self):
        for body in (
            "give z", "if z give x else give x", "case z nil : give x cons s t : give x end",
            "let s plus z x give x", "let s plus x z give x", "let s make nil z ; give x", "let s make leaf z ; give x",
            "let s make cons x z ; give x", "let s call g z ; give x", "let s func g z ; give x", "let s func f x z ; give x",
            "let s ask z ; give x", "let s ask x z ; give x", "let s ask x x z x ; give x",
            "let z plus x z give x", "let z ask z ; give x",
        ):
            self.body_refused(body, Unknown, "z")

    def test_names_of_tags_and_defs_are_none_of_values(self):
        self.body_refused("give leaf", Unknown, "leaf")
        self.body_refused("let s plus x f give s", Unknown, "f")
        self.body_refused("let s ask g x ; give s", Unknown, "g")

    def test_a_name_bound_on_another_way(self):
        self.body_refused("if x let z num 1 give z else give z", Unknown, "z")
        self.body_refused("case x nil : give z cons z t : give x end", Unknown, "z")
        self.body_refused("case x cons z t : give z nil : give z end", Unknown, "z")
        self.refused("def f x = let z num 1 give z\ndef g x = give z", Unknown, "z")

    def test_a_tag_or_def_that_is_not_there(self):
        self.body_refused("let s make z ; give s", Unknown, "z")
        self.body_refused("let s make g x ; give s", Unknown, "g")
        self.body_refused("let s call z ; give s", Unknown, "z")
        self.body_refused("let s call x x ; give s", Unknown, "x")
        self.body_refused("let s func z ; give s", Unknown, "z")
        self.body_refused("let s func nil ; give s", Unknown, "nil")
        self.body_refused("case x z : give x end", Unknown, "z")
        self.body_refused("case x nil : give x z s t : give x end", Unknown, "z")

    def test_another_number_of_names(self):
        for body, name in (
            ("let s make nil x ; give s", "nil"), ("let s make cons x ; give s", "cons"), ("let s make leaf ; give s", "leaf"),
            ("let s make cons x x x ; give s", "cons"), ("let s make big x x x x x x x x ; give s", "big"),
            ("let s call g ; give s", "g"), ("let s call g x x ; give s", "g"), ("let s call h x ; give s", "h"),
            ("let s call f x ; give s", "f"), ("let s call f x x x ; give s", "f"),
            ("let s func h x ; give s", "h"), ("let s func g x x ; give s", "g"), ("let s func f x y x ; give s", "f"),
            ("case x nil s : give x cons s t : give x end", "nil"), ("case x nil : give x cons s : give x end", "cons"),
            ("case x nil : give x cons s t u : give x end", "cons"), ("case x big s : give x end", "big"),
        ):
            self.body_refused(body, Misfit, name)

    def test_a_name_bound_already(self):
        for body, name in (
            ("let x num 1 give x", "x"), ("let y num 1 give x", "y"), ("let s num 1 let s num 1 give x", "s"),
            ("let x plus x y give x", "x"), ("let y make nil ; give x", "y"), ("let y call g x ; give x", "y"),
            ("let y func g ; give x", "y"), ("let y ask x ; give x", "y"),
            ("case x nil : give x cons x t : give x end", "x"), ("case y cons s y : give x nil : give x end", "y"),
            ("case x nil : give x cons s s : give x end", "s"), ("case x cons s t : let t num 1 give x nil : give x end", "t"),
            ("case x cons s t : case t cons t u : give x nil : give x end nil : give x end", "t"),
            ("let s num 1 case x nil : give x cons s t : give x end", "s"),
            ("if x let s num 1 let s num 1 give s else give x", "s"),
        ):
            self.body_refused(body, Twice, name)

    def test_an_arm_of_another_kind(self):
        self.body_refused("case x nil : give x leaf s : give x cons s t : give x end", Misfit, "leaf")
        self.body_refused("case x leaf s : give x nil : give x end", Misfit, "nil")

    def test_a_tag_that_an_arm_ahead_has(self):
        self.body_refused("case x nil : give x nil : give x cons s t : give x end", Twice, "nil")
        self.body_refused("case x cons s t : give x nil : give x cons s t : give x end", Twice, "cons")

    def test_tags_that_lack(self):
        self.body_refused("case x nil : give x end", Lacking, "x", ["cons"])
        self.body_refused("case y cons s t : give x end", Lacking, "y", ["nil"])
        self.body_refused("case x bud : give x end", Lacking, "x", ["leaf", "fork"])
        self.body_refused("case x bud : give x leaf s : give x end", Lacking, "x", ["fork"])
        self.body_refused("case x fork s t : give x end", Lacking, "x", ["leaf", "bud"])


class TheFirstOfSeveral(SoundTest):
    def test_of_a_deed_names_from_the_left_then_tag_or_def_then_number_then_the_let(self):
        for body, refusal, name in (
            ("let x plus z w give v", Unknown, "z"), ("let x plus y w give v", Unknown, "w"),
            ("let x plus y y give v", Twice, "x"), ("let s plus y y give v", Unknown, "v"),
            ("let x num 1 give v", Twice, "x"),
            ("let x make v w z ; give s", Unknown, "w"), ("let x make v x z ; give s", Unknown, "z"),
            ("let x make v x x ; give s", Unknown, "v"), ("let x make leaf x x ; give s", Misfit, "leaf"),
            ("let x make leaf x ; give s", Twice, "x"),
            ("let x call v w z ; give s", Unknown, "w"), ("let x call v x z ; give s", Unknown, "z"),
            ("let x call v x x ; give s", Unknown, "v"), ("let x call g x x ; give s", Misfit, "g"),
            ("let x call g x ; give s", Twice, "x"),
            ("let x func v w z ; give s", Unknown, "w"), ("let x func v x z ; give s", Unknown, "z"),
            ("let x func v x x ; give s", Unknown, "v"), ("let x func g x x ; give s", Misfit, "g"),
            ("let x func g x ; give s", Twice, "x"),
            ("let x ask v w z ; give s", Unknown, "v"), ("let x ask y w z ; give s", Unknown, "w"),
            ("let x ask y y z ; give s", Unknown, "z"), ("let x ask y y y ; give s", Twice, "x"),
        ):
            self.body_refused(body, refusal, name)

    def test_of_a_head(self):
        for body, refusal, name in (
            ("case z v w w : give u end", Unknown, "z"), ("case x v w w : give u end", Unknown, "v"),
            ("case x nil : give u v w w : give u end", Unknown, "v"),
            ("case x nil : give u leaf w w : give u end", Misfit, "leaf"),
            ("case x leaf s : give u cons s t : give u leaf s : give u end", Misfit, "cons"),
            ("case x cons s t : give u cons x x x : give u end", Twice, "cons"),
            ("case x nil : give u cons x x x : give u end", Misfit, "cons"),
            ("case x nil : give u cons x y : give u end", Twice, "x"),
            ("case x nil : give u cons s y : give u end", Twice, "y"),
            ("case x nil : give u cons s s : give u end", Twice, "s"),
            ("case x cons s s : give u nil y : give u end", Twice, "s"),
        ):
            self.body_refused(body, refusal, name)

    def test_all_heads_then_those_that_lack_then_the_bodies(self):
        for body, refusal, name, tags in (
            ("case x cons s t : give u nil y : give u end", Misfit, "nil", None),
            ("case x leaf s : give u fork y s : give u end", Twice, "y", None),
            ("case x leaf s : give u bud : give v end", Lacking, "x", ["fork"]),
            ("case x nil : give u cons s t : give v end", Unknown, "u", None),
            ("case x nil : give x cons s t : give v end", Unknown, "v", None),
            ("case x nil : case x leaf s : give u end cons s t : give v end", Lacking, "x", ["fork", "bud"]),
            ("case x nil : let x num 1 give x cons s t : give v end", Twice, "x", None),
        ):
            self.body_refused(body, refusal, name, tags)

    def test_bodies_in_the_order_of_the_text(self):
        for body, refusal, name in (
            ("if z give u else give v", Unknown, "z"), ("if x give u else give v", Unknown, "u"),
            ("if x give x else give v", Unknown, "v"), ("if x if x give x else give u else give v", Unknown, "u"),
            ("if x let x num 1 give u else give v", Twice, "x"), ("let s num 1 let s num 1 give u", Twice, "s"),
            ("if x if x give x else give x else if x give x else give u", Unknown, "u"),
        ):
            self.body_refused(body, refusal, name)

    def test_made_programs_held_against_the_order_told(self):
        met = {}
        for seed in range(300):
            for program in self.spoilt(SoundMaker(seed, depth=4).program, random.Random(seed)):
                first = next(faults(program), None)
                met[first and first[0]] = met.get(first and first[0], 0) + 1
                if first is None:
                    self.assertIs(sound(program), True)
                else:
                    self.program_refused(program, *first)
        for refusal in (None, Twice, Unknown, Misfit, Lacking):
            self.assertGreater(met[refusal], 50, refusal)

    def test_programs_of_every_form(self):
        for seed in range(400):
            program = Maker(seed).program()
            first = next(faults(program), None)
            if first is None:
                self.assertIs(sound(program), True)
            else:
                self.program_refused(program, *first)

    def spoilt(self, program, chance):
        """The program with one place of its text after another changed to what is of the form still."""
        words = told(program).split(" ")
        names = [word for word in words if word.isalpha() and "\n" not in word]
        for _ in range(30):
            changed = list(words)
            for _ in range(chance.randint(1, 3)):
                place = chance.randrange(len(changed))
                how = chance.randrange(3)
                if how == 0:
                    changed[place] = chance.choice(names)
                elif how == 1:
                    changed.pop(place)
                else:
                    changed.insert(place, chance.choice(names))
            try:
                yield read(" ".join(changed))
            except NoText:
                pass
        for arm in self.without_an_arm(program[1]):
            yield (program[0], arm)

    def without_an_arm(self, thing):
        """The defs with one arm of one case left out."""
        if isinstance(thing, tuple) and len(thing) == 3 and thing[0] == "case" and isinstance(thing[2], tuple):
            for at in range(len(thing[2]) if len(thing[2]) > 1 else 0):
                yield ("case", thing[1], thing[2][:at] + thing[2][at + 1:])
        elif isinstance(thing, tuple):
            for at, part in enumerate(thing):
                for changed in self.without_an_arm(part):
                    yield thing[:at] + (changed,) + thing[at + 1:]

    def test_the_list_of_those_that_lack_is_the_askers_own(self):
        program = read(f"{KINDS}\ndef f x = case x bud : give x end")
        before = copy.deepcopy(program)
        for _ in range(3):
            with self.assertRaises(Lacking) as caught:
                sound(program)
            self.assertEqual(caught.exception.tags, ["leaf", "fork"])
            caught.exception.tags.clear()
        self.assertEqual(program, before)


if __name__ == "__main__":
    unittest.main()
