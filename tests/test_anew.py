import random
import unittest

from reusewise.anew import anew
from reusewise.checker import checked, tight
from reusewise.holds import held, plain
from reusewise.owners import owners
from reusewise.reader import read
from tests.helper import LIBRARY, SoundMaker, all_bodies, paths, some_owns

KINDS = "kind nil 0 cons 2\nkind leaf 1 bud 0\nkind big 9"


def stripped(body):
    """The body without tokens and looses."""
    if body[0] == "give":
        return body
    if body[0] == "loose":
        return stripped(body[2])
    if body[0] == "if":
        return ("if", body[1], stripped(body[2]), stripped(body[3]))
    if body[0] == "case":
        return ("case", body[1], tuple(arm[:3] + ("", stripped(arm[4])) for arm in body[2]))
    if body[0] == "let" and body[2][0] == "make":
        return ("let", body[1], body[2][:3] + ("",), stripped(body[3]))
    return body[:-1] + (stripped(body[-1]),)


def names_in(one):
    """All names of a held def, those that holds bind among them."""
    names = set(one[1])
    for body in all_bodies(one[3]):
        names |= {body[1]} if body[0] != "loose" else set()
        names |= {name for arm in body[2] for name in arm[1]} if body[0] == "case" else set()
        names |= {body[2]} if body[0] == "hold" else set()
    return names


def take_arms(body, above=()):
    """Each arm in take way with a name at least, with the tokens of the arms that it lies in."""
    if body[0] == "case":
        for arm in body[2]:
            if arm[2] == "take" and arm[1]:
                yield arm, above
            yield from take_arms(arm[4], above + ((arm[3],) if arm[3] else ()))
    elif body[0] != "give":
        for within in body[2:] if body[0] == "if" else body[-1:]:
            yield from take_arms(within, above)


class AnewTest(unittest.TestCase):
    def as_told(self, code):
        found = anew(code)
        self.assertEqual(anew(code), found)
        self.assertEqual([one[:3] for one in found[1]], [one[:3] for one in code[1]])
        self.assertEqual((found[0], len(found)), (code[0], 2))
        for one, other in zip(code[1], found[1]):
            self.assertEqual(stripped(other[3]), one[3])
            self.tokens_are_new(other)
            for arm, above in take_arms(other[3]):
                self.arm_as_told(arm, above)
        self.assertIs(checked(found), True)
        return found

    def tokens_are_new(self, one):
        arms = [arm for body in all_bodies(one[3]) if body[0] == "case" for arm in body[2]]
        tokens = [arm[3] for arm in arms if arm[3]]
        self.assertEqual(len(tokens), len(set(tokens)))
        self.assertEqual(set(tokens) & names_in(one), set())
        for arm in arms:
            if arm[2] == "look" or not arm[1]:
                self.assertEqual(arm[3], "")

    def arm_as_told(self, arm, above):
        """Holds an arm against [20], which tells what stands on each way through its body."""
        def is_such(body):
            if body[0] != "let" or body[2][0] != "make":
                return False
            return len(body[2][2]) == len(arm[1]) and body[2][3] not in above

        def has_one(body):
            return any(is_such(within) for within in all_bodies(body))

        token = arm[3]
        self.assertEqual(token != "", has_one(arm[4]))
        if token == "":
            return
        for path in paths(arm[4]):
            bodies = [body for body, _ in path]
            such = [body for body in bodies if is_such(body)]
            looses = [at for at, body in enumerate(bodies) if body[:2] == ("loose", token)]
            users = [body for body in bodies if body[0] == "let" and body[2][0] == "make" and body[2][3] == token]
            if such:
                self.assertEqual((users, looses), (such[:1], []))
            else:
                self.assertEqual((users, len(looses)), ([], 1))
                begin = looses[0]
                while bodies[begin - 1][0] == "loose":
                    begin -= 1
                self.assertGreater(begin, 0)
                self.assertIn(bodies[begin - 1][0], ("if", "case"))
                self.assertFalse(has_one(bodies[begin]))
                self.assertTrue(has_one(bodies[begin - 1]))

    def body(self, text, own=True):
        """The body with tokens of a def whose one param x is held, or lent."""
        program = read(f"{KINDS}\ndef f x = {text}")
        return self.as_told(held(program, {"f": (own,)}))[1][0][3]

    def test_a_make_on_all_ways(self):
        body = self.body("case x cons a b : let c make cons b a ; give c nil : let c make nil ; give c end")
        token = body[2][0][3]
        self.assertNotEqual(token, "")
        self.assertEqual(body, ("case", "x", (
            ("cons", ("a", "b"), "take", token, ("let", "c", ("make", "cons", ("b", "a"), token), ("give", "c"))),
            ("nil", (), "take", "", ("let", "c", ("make", "nil", (), ""), ("give", "c"))),
        )))

    def test_a_make_on_some_ways(self):
        body = self.body("case x leaf a : if a let c make leaf a ; give c else give a bud : let c num 1 give c end")
        token = body[2][0][3]
        self.assertEqual(body[2][0][4], ("if", "a", ("let", "c", ("make", "leaf", ("a",), token), ("give", "c")), (
            "loose", token, ("give", "a"))))
        body = self.body("case x leaf a : if a give a else let c make leaf a ; give c bud : let c num 1 give c end")
        self.assertEqual(body[2][0][4][2], ("loose", body[2][0][3], ("give", "a")))

    def test_a_make_on_no_way(self):
        for text in (
            "case x leaf a : give a bud : let c num 1 give c end",
            "case x leaf a : let c make cons a a ; give c bud : let c num 1 let d make leaf c ; give d end",
            "case x leaf a : let c make bud ; give c bud : let c num 1 give c end",
        ):
            self.assertEqual([arm[3] for arm in self.body(text)[2]], ["", ""])

    def test_looses_stand_as_early_as_can_be_ahead_of_drops(self):
        body = self.body(
            "case x cons a b : if a if b let c make cons a b ; give c else give b "
            "else let d num 1 if d give a else give b nil : let c num 1 give c end"
        )
        token, within = body[2][0][3], body[2][0][4]
        while within[0] == "drop":
            within = within[2]
        self.assertEqual((within[0], within[3][:2]), ("if", ("loose", token)))
        self.assertEqual((within[2][0], within[2][3][:2]), ("if", ("loose", token)))
        self.assertEqual(within[2][3][2], ("drop", "a", ("give", "b")))

    def test_looses_at_the_begin_of_an_arm(self):
        body = self.body(
            "case x cons a b : case a nil : give b cons c d : let e make cons d c ; give e end nil : let c num 1 give c end"
        )
        token, within = body[2][0][3], body[2][0][4]
        self.assertEqual(within[2][0][4][:2], ("loose", token))

    def test_several_makes_on_one_way(self):
        body = self.body(
            "case x leaf a : let b make leaf a ; let c make leaf b ; let d make leaf c ; give d bud : let b num 1 give b end"
        )
        token, within = body[2][0][3], body[2][0][4]
        self.assertEqual([within[2][3], within[3][2][3], within[3][3][2][3]], [token, "", ""])

    def test_arms_within_arms_the_outer_one_first(self):
        body = self.body(
            "case x leaf a : case a leaf b : let c make leaf b ; let d make leaf c ; give d bud : let c num 1 give c end "
            "bud : let c num 1 give c end"
        )
        outer, inner = body[2][0][3], body[2][0][4][2][0][3]
        self.assertNotEqual(outer, inner)
        within = body[2][0][4][2][0][4]
        self.assertEqual((within[2][3], within[3][2][3]), (outer, inner))
        self.assertEqual(body[2][0][4][2][1][4][:2], ("loose", outer))
        body = self.body(
            "case x leaf a : case a leaf b : let c make leaf b ; give c bud : let c num 1 give c end bud : let c num 1 give c end"
        )
        self.assertEqual(body[2][0][4][2][0][3], "")
        self.assertNotEqual(body[2][0][3], "")

    def test_several_looses_at_one_begin(self):
        self.body(
            "case x leaf a : case a leaf b : if b let c make leaf b ; let d make leaf c ; give d else give b "
            "bud : let c num 1 give c end bud : let c num 1 give c end"
        )

    def test_arms_within_of_another_number_of_names(self):
        self.body(
            "case x cons a b : case a leaf c : let d make leaf b ; let e make cons d c ; give e bud : give b end "
            "nil : let c num 1 give c end"
        )

    def test_an_arm_without_names(self):
        body = self.body("case x leaf a : give a bud : let c make bud ; give c end")
        self.assertEqual([arm[3] for arm in body[2]], ["", ""])

    def test_an_arm_in_look_way(self):
        text = "case x leaf a : let c make leaf a ; give c bud : let c num 1 give c end"
        self.assertEqual([arm[3] for arm in self.body(text, False)[2]], ["", ""])
        self.assertNotEqual(self.body(text)[2][0][3], "")
        body = self.body("case x leaf a : let c make cons a x ; give c bud : let c num 1 give c end")
        self.assertEqual((body[2][0][2], body[2][0][3]), ("look", ""))

    def test_tokens_are_none_of_the_names_that_holds_bind(self):
        first = self.body("case x leaf a : let c make leaf a ; give c bud : let c num 1 give c end")[2][0][3]
        kinds = (((("leaf", 1),)),)
        for name in (first, first + "1", "", "t", "1", "place.2", "token"):
            arm = ("leaf", ("a",), "take", "", ("hold", name, "a", (
                "let", "c", ("make", "leaf", (name,), ""), ("drop", "a", ("give", "c")))))
            self.as_told((kinds, (("f", ("x",), (True,), ("case", "x", (arm,))),)))
        arm = ("leaf", (first,), "take", "", ("let", "c", ("make", "leaf", (first,), ""), ("give", "c")))
        self.as_told((kinds, (("f", ("x",), (True,), ("case", "x", (arm,))),)))

    def test_each_token_once_also_over_several_arms_and_defs(self):
        row = "case x leaf a : let c make leaf a ; give c bud : let c num 1 give c end"
        code = self.as_told(held(read(f"{KINDS}\ndef f x = {row}\ndef g x = {row}"), {"f": (True,), "g": (True,)}))
        self.assertNotEqual(code[1][0][3][2][0][3], "")
        self.assertNotEqual(code[1][1][3][2][0][3], "")
        self.body(
            "if x case x cons a b : let c make cons b a ; give c nil : let c num 1 give c end "
            "else case x cons a b : let c make cons b a ; give c nil : let c num 1 give c end"
        )

    def test_code_without_defs(self):
        self.assertEqual(anew(((), ())), ((), ()))

    def test_the_library(self):
        program = read(LIBRARY)
        code = self.as_told(held(program, owners(program)))
        self.assertEqual(plain(code), program)
        self.assertIs(tight(code), True)
        for seed in range(10):
            self.as_told(held(program, some_owns(program, random.Random(seed))))

    def test_made_programs(self):
        many = 0
        for seed in range(600):
            program = SoundMaker(seed, depth=4 + seed % 3, shapely=seed % 4 > 0).program
            all_held = {name: (True,) * len(params) for name, params, _ in program[1]}
            for owns in (owners(program), all_held, some_owns(program, random.Random(seed))):
                code = self.as_told(held(program, owns))
                self.assertEqual(plain(code), program)
                self.assertIs(tight(code), True)
                many += sum(1 for one in code[1] for arm, above in take_arms(one[3]) if arm[3] and above)
        self.assertGreater(many, 30)

    def test_depth(self):
        deep = ("let", "z", ("make", "leaf", ("x",), ""), ("give", "z"))
        for _ in range(2000):
            deep = ("case", "x", (("leaf", ("x",), "take", "", deep),))
        found = anew((((("leaf", 1),),), (("f", ("x",), (True,), deep),)))[1][0][3]
        tokens = []
        while found[0] == "case":
            tokens.append(found[2][0][3])
            found = found[2][0][4]
        self.assertEqual([bool(token) for token in tokens], [True] + [False] * 1999)
        self.assertEqual(found[2][3], tokens[0])


if __name__ == "__main__":
    unittest.main()
